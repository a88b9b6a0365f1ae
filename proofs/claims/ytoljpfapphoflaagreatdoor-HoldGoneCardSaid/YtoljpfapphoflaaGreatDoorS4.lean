/-
  SfE + SfF
-/
import Derived.Test.YtoljpfapphoflaaGreatDoorS3
import Derived.Test.YtoljpfapphoflaaGreatDoorR3
set_option linter.unusedVariables false
set_option linter.unusedSimpArgs false
set_option maxHeartbeats 4000000
set_option maxRecDepth 100000
namespace Go.Proofs.YtoljpfapphoflaaGreatDoor.SfE
open Go.RowKit BxD BxKit PkKit PkA PkB PkC PkF SfM SfB SfA SfR SfC RkD
def szC (l:List Ch):Prop:=∀ c∈l,c.name.size<=1000000/\c.data.length<=1000000
theorem chB_len {c:Ch} (h:c.name.size<=1000000/\c.data.length<=1000000):(chB c).length<=3000000:=by
 have h1:=nums_len [0];have h2:=nums_len [1];have h3:=tx_len (s:=c.name) (by omega);have h4:=tx_len (s:=baL c.data) (by rw [ba_size]; omega);rw [ba_size] at h4;simp only [List.length_cons,List.length_nil] at h1 h2;unfold chB;split
 · rw [List.length_append]; omega
 · rw [List.length_append,List.length_append]; omega
def BsPost (l:List UInt8) (w:World) (e:Ending) (w':World):Prop:=∃ A c,e = .returned (.slice A l.length c)/\l.length<=c/\Ow w' w.heap.size (.slice A l.length c) l.length (by_ l)/\Below w.heap.size w w'
theorem bytes_any {w:World} {base lo hi n cp:Nat} {A:Option Addr} {l:List Ch} (h:ChsP w base lo hi A n l) (h1:base<=w.heap.size) (h2:hi<=w.heap.size) (hn:n<=1000) (hz:szC l) :
 Calls Tryz.prog 22 #[.slice A n cp] w (BsPost (bsL l) w):=by
 have HL:=H_ h;have HZ:=H_ hz;have HW:=H_ (And.intro h1 h2);have hln:=h.1;have HLN:=H_ hln;clear h hz h1 h2 hln;go_enter Tryz.func22,Tryz.ntmps22;go_wp2_with fail
 go_loopw [3,8] (fun s3 s8 wr=>∃ (v:Value) (k q:Nat),s3=v/\k<=n/\s8 = .int .i64 k/\q<=3000000*k/\Hid (q=(bsL (l.take k)).length)/\Hid (OO w.heap.size w wr q v (bsL (l.take k)))) (fun _ s8 _=>n-(intOf s8).toNat)
 case atStart=>exact⟨_,0,0,rfl,Nat.zero_le _,rfl,Nat.zero_le _,rfl,⟨.inl (World.ownsRow_nil _ _ _ _),Below.refl _ _,Nat.le_refl _⟩⟩
 case round =>
  obtain⟨v,k,q,rfl,hk,rfl,hq,HQ,HO⟩:=hrel;obtain⟨A1,c1,rfl,hc1⟩:=Ow.slice HO.out.own;by_cases hlt:k<n
  · obtain⟨ad,x,b,K,kd,kc,rfl,hg,d0,d1,d2,hle,hby,_⟩:=HL.out.sp (Kb.below HO.out.bel HW.out.1 HW.out.2) (j:=k) hlt
    have HG:=H_ hg;have hsz:=HZ.out _ (List.mem_of_getElem? hg);have hs1:x.size<=1000000:=hsz.1;have hs2:kd.length<=1000000:=hsz.2;have hcl:(chB ⟨x,b,kd⟩).length<=3000000:=chB_len hsz;have hsn:=bsL_snoc hg;have hOs:=HO.out.bel.size;have hby':=(hby.at_ (Nat.le_trans HW.out.1 hOs) (Nat.le_trans HW.out.2 hOs));have ka:=app_any (nm:=x) (ct:=b) (dc:=kc) (d:=kd) (B:=w.heap.size) (base:=w.heap.size) ((HO.out.alloc (.cells #[.string x,.bool b,.slice K kd.length kc] 81)).own) (D:=K) (dn:=kd.length) (by
     obtain⟨g1,g2⟩:=hby;refine⟨g1,fun h0=>?_⟩;obtain⟨ad',e,hp,hc⟩:=g2 h0;refine⟨ad',e, ?_,fun j c hj=>(World.cell?_of_block ?_).trans (hc j c hj)⟩
     · have:=HW.out; unfold Pb at hp; omega
     · rw [BxKit.add_block]; exact Below.heap_alloc _ _ _ (by have:=HW.out; unfold Pb at hp; omega)) lr_ (by simp; omega) (by omega) (by omega) (by omega)
    obtain⟨U,hU⟩ : ∃ U,U=(chB ⟨x,b,kd⟩).length:=⟨_,rfl⟩;obtain⟨m,hm⟩ : ∃ m,m=kd.length:=⟨_,rfl⟩;rw [<- hm] at d2 ka;rw [<- hU] at ka hcl;have KA:=H_ ka;have HSN:=H_ hsn;have HU:=H_ hU;clear hg hsz hsn hby hby' ka hU hm hle hs2 hs1 hOs;go_wp2_with (go_at_call 53; go_loud (
     refine KA.out.mono ?_;rintro e w2 ⟨v2,rfl,g2⟩;have O2:=H_ ((HO.out.alloc _).om g2);clear g2))
    go_roundw
    case measure=>simp [intOf]; omega
    case rel=>exact⟨v2,k+1,q+U,rfl,by omega,by go_num,by omega,by rw [HSN.out,List.length_append,<- HQ.out,<- HU.out]; rfl,by rw [HSN.out]; exact O2.out⟩
  · obtain rfl:n=k:=by omega
    have ho:=HO.out;have hq2:=HQ.out;rw [List.take_of_length_le (by rw [HLN.out]; exact Nat.le_refl _)] at ho hq2;subst hq2;have HP:=H_ (show BsPost (bsL l) w (.returned (.slice A1 (bsL l).length c1)) wr from ⟨A1,c1,rfl,hc1,ho.own,ho.bel⟩);clear ho HO HQ;go_wp2_with fail
    go_ret;exact HP.out
def RcPost (c:Ch) (s:Sr) (w:World) (R T:Nat) (e:Ending) (w':World):Prop :=
 ∃ D dc,e = .returned (.agg #[.string c.name,.bool c.cut,.slice D c.data.length dc])/\c.data.length<=dc/\RkK.ByT w' D c.data.length c.data/\(∀ ad,D=some ad->w.heap.size<=ad.block)/\PRd w' R T s/\Fr2 R T w w'
theorem ret3 {wr:World} {P:Nat} {a0 a1 a2:Value} (h:RkO.Row wr P 81 [a0,a1,a2]) (c0 c1 c2:Value) :
 ∃ W,W=((wr.setCell ⟨P,0,none⟩ c0).setCell ⟨P,1,none⟩ c1).setCell ⟨P,2,none⟩ c2 /\
  W.cell? ⟨P,0,none⟩ = some c0/\W.cell? ⟨P,1,none⟩ = some c1/\W.cell? ⟨P,2,none⟩ = some c2/\wr.grownBy W (some P):=by
 have hb:=((h.stored 0 c0).stored 1 c1).stored 2 c2;exact⟨_,rfl,hb.cell 0,hb.cell 1,hb.cell 2,RkO.grown_trans (RkO.grown_trans (RkO.setCell_grown wr ⟨P,0,none⟩ c0) (RkO.setCell_grown _ ⟨P,1,none⟩ c1)) (RkO.setCell_grown _ ⟨P,2,none⟩ c2)⟩
structure Rs (w w':World) (R T:Nat) (s:Sr) (nm:ByteArray) (ct:Bool) (V:Value):Prop where
 res:RkO.Row w' w.heap.size 81 [.string ⟨#[]⟩,.bool false,.slice none 0 0]
 blk:RkO.Row w' (w.heap.size+1) 81 [.string nm,.bool ct,V]
 rd:PRd w' R T s
 fr:Fr2 R T w w'
 hR:R<w.heap.size
 hT:T<w.heap.size
 size:w.heap.size+2<=w'.heap.size
section
variable {w w' w2 : World} {R T : Nat} {s s' : Sr} {nm : ByteArray} {ct : Bool} {V : Value}
theorem Rs.keep (h:Rs w w' R T s nm ct V) (hf:Fr2 R T w' w2) (hr:PRd w2 R T s'):Rs w w2 R T s' nm ct V:=by
 have h1:=h.hR;have h2:=h.hT;have h3:=h.size;exact⟨h.res.same (hf.block _ (by omega) (by omega) (by omega)),h.blk.same (hf.block _ (by omega) (by omega) (by omega)),hr,h.fr.trans hf,h.hR,h.hT,Nat.le_trans h.size hf.size⟩
theorem Rs.setB {l':List Value} (h:Rs w w' R T s nm ct V) (i:Nat) (u:Value) {nm':ByteArray} {ct':Bool} {V':Value} (e:[Value.string nm,.bool ct,V].set i u=[.string nm',.bool ct',V']) (_:l'=[]):Rs w (w'.setCell ⟨w.heap.size+1,i,none⟩ u) R T s nm' ct' V':=by
 have h1:=h.hR;have h2:=h.hT;have h3:=h.size;have hb:=h.blk.stored i u;rw [e] at hb;exact⟨h.res.far (by show w.heap.size≠w.heap.size+1; omega) u,hb,h.rd.set (by omega) (by omega) u,h.fr.set (by omega) u,h.hR,h.hT,by simpa [World.setCell] using h.size⟩
end
theorem Rs.fin {w w' W:World} {R T:Nat} {s:Sr} {nm:ByteArray} {ct:Bool} {V:Value} (h:Rs w w' R T s nm ct V) (g:w'.grownBy W (some w.heap.size)):PRd W R T s/\Fr2 R T w W:=by
 have h1:=h.hR;have h2:=h.hT;have h3:=h.size;refine⟨⟨(g.block R (by omega) (fun e=>by have:R=w.heap.size:=Option.some.inj e; omega)).trans h.rd.blk,h.rd.rd.below (B:=w.heap.size) ⟨g.os,g.tape,g.output,g.size,fun k hk=>g.block k (by omega) (fun e=>by have:k=w.heap.size:=Option.some.inj e; omega)⟩ h2,h.rd.ne⟩, ?_⟩;exact⟨g.os.trans h.fr.os,g.tape.trans h.fr.tape,g.output.trans h.fr.output,Nat.le_trans h.fr.size g.size,fun k hk e1 e2=>(g.block k (by omega) (fun e=>by have:k=w.heap.size:=Option.some.inj e; omega)).trans (h.fr.block k hk e1 e2)⟩
theorem ow_byT {w:World} {base n c:Nat} {A:Option Addr} {d:List UInt8} (h:Ow w base (.slice A n c) n (by_ d)):RkK.ByT w A n d:=by
 obtain⟨hl,hc⟩:=h.bytes;refine⟨hl,fun h0=>?_⟩;obtain⟨ad,e,_,hcell⟩:=hc h0;refine⟨ad,e, ?_,hcell⟩;subst e;rcases h with h | ⟨_,g,cur,fz,hv,_,hg,_⟩
 · rcases h.2 with⟨hv,h1⟩ | ⟨g,cap,cur,hv,_,hg,_⟩
   · omega
   · injection hv with hv
     obtain rfl:=Option.some.inj hv;exact⟨_,_,hg⟩
 · injection hv with hv
   obtain rfl:=Option.some.inj hv;exact⟨_,_,hg⟩
theorem txt_max (s:Sr):(txtS 200000 s).1.size<=200000:=by
 unfold txtS;split
 · exact Nat.zero_le _
 · have h:(PkF.tz s.1 200000).1.length<=200000:=by
    unfold PkF.tz;split
    · exact Nat.zero_le _
    · split
      · exact Nat.zero_le _
      · split
        · exact Nat.zero_le _
        · rename_i h1 h2 h3
          rw [List.length_take];omega
   show (PkF.tz s.1 200000).1.toArray.size<=200000;rw [List.size_toArray]; exact h
theorem read_any {w:World} {R T:Nat} {s:Sr} (h:PRd w R T s) :
 Calls Tryz.prog 99 #[ptr R] w (RcPost (rdC s).1 (rdC s).2 w R T):=by
 have M0:=H_ (show Rs w ((w.alloc (.cells #[.string ⟨#[]⟩,.bool false,.slice none 0 0] 81)).alloc (.cells #[.string ⟨#[]⟩,.bool false,.slice none 0 0] 81)) R T s ⟨#[]⟩ false (.slice none 0 0) from
  ⟨RkO.Row.alloc (heap_alloc_new w _) _,by have:=heap_alloc_new (w.alloc (.cells #[.string ⟨#[]⟩,.bool false,.slice none 0 0] 81)) (.cells #[.string ⟨#[]⟩,.bool false,.slice none 0 0] 81); unfold RkO.Row; simpa using this,(h.alloc _).alloc _,((Fr2.refl _ _ _).alloc _).alloc _,h.lt,h.rd.lt,by simp⟩)
 have K0:=H_ (fun (wr:World) (g:PRd wr R T s)=>number_p g 1);have hle:=nt_le 1 s;obtain⟨s1,hs1⟩ : ∃ s1,s1=(ntS 1 s).2:=⟨_,rfl⟩;obtain⟨k,hk⟩ : ∃ k,k=(ntS 1 s).1:=⟨_,rfl⟩;obtain⟨s2,hs2⟩ : ∃ s2,s2=(txtS 24 s1).2:=⟨_,rfl⟩;obtain⟨nm,hnm⟩ : ∃ nm,nm=(txtS 24 s1).1:=⟨_,rfl⟩;have K1:=H_ (fun (wr:World) (g:PRd wr R T s1)=>show Calls Tryz.prog 123 #[ptr T,.int .i64 24] wr (Pq wr R T (.string nm) s2) from by rw [hnm,hs2]; exact text_p g 24);rw [<- hk] at hle;simp only [<- hs1,<- hk] at K0;obtain⟨b,hb⟩ : ∃ b:Bool,b=decide (k=1):=⟨_,rfl⟩;have hbk:((k:Int)==1)=b:=by rw [hb]; rcases (by omega:k=0\/k=1) with rfl | rfl <;> rfl
 have hrd : ∃ s3:Sr,∃ d:List UInt8,rdC s=(⟨nm,b,d⟩,s3)/\(b=true->d=[]/\s3=s2)/\(b=false->s3=(txtS 200000 s2).2/\d=(txtS 200000 s2).1.data.toList):=by
  unfold rdC;rw [<- hk,<- hs1,<- hnm,<- hs2];by_cases h1:k=1
  · rw [if_pos h1]
    rw [decide_eq_true h1] at hb;subst hb;exact⟨_,_,rfl,fun _=>⟨rfl,rfl⟩,fun h=>by cases h⟩
  · rw [if_neg h1]
    rw [decide_eq_false h1] at hb;subst hb;exact⟨_,_,rfl,(fun h=>by cases h),fun _=>⟨rfl,rfl⟩⟩
 obtain⟨s3,d,hrd,ht,hf⟩:=hrd;rw [hrd];have HT:=H_ ht;have HF:=H_ hf;clear h hrd ht hf hs1 hk hs2 hnm hb hle;go_enter Tryz.func99,Tryz.ntmps99;go_upto_region 2 with fail
 generalize (World.alloc (World.alloc w _) _)=wa0 at M0 ⊢;have KK:=H_ (K0.out wa0 M0.out.rd);go_upto_region 3 with (go_at_call 120; go_loud (
  refine KK.out.mono ?_;rintro e wb0 ⟨rfl,hr,hf⟩;have N0:=H_ (M0.out.keep hf hr);have q0:=N0.out.blk.cell 1;have q1:=N0.out.blk.frozen 1;clear hr hf))
 have M1:=H_ (N0.out.setB 1 (.bool b) (nm':=⟨#[]⟩) (ct':=b) (V':=.slice none 0 0) rfl rfl);clear M0 N0 KK K0 q0 q1;generalize (World.setCell wb0 _ _)=wa1 at M1 ⊢;have KK:=H_ (K1.out wa1 M1.out.rd);have b1:=M1.out.rd.cells.1;go_upto_region 4 with (go_at_call 123; go_loud (
  refine KK.out.mono ?_;rintro e wb1 ⟨rfl,hr,hf⟩;have N1:=H_ (M1.out.keep hf hr);have q0:=N1.out.blk.cell 0;have q1:=N1.out.blk.frozen 0;clear hr hf b1))
 have M2:=H_ (N1.out.setB 0 (.string nm) (nm':=nm) (ct':=b) (V':=.slice none 0 0) rfl rfl);clear M1 N1 KK K1 q0 q1;generalize (World.setCell wb1 _ _)=wa2 at M2 ⊢;have q1:=M2.out.blk.cell 1;cases b with
 | true =>
  obtain⟨hd,h3⟩:=HT.out rfl;subst hd;subst h3;have q0:=M2.out.blk.cell 0;have q2:=M2.out.blk.cell 2;have z0:=M2.out.res.cell 0;have z1:=M2.out.res.cell 1;have z2:=M2.out.res.cell 2;have f0:=M2.out.res.frozen 0;have f1:=M2.out.res.frozen 1;have f2:=M2.out.res.frozen 2;go_wp2_with fail
  obtain⟨W,hW,p0,p1,p2,hWg⟩:=ret3 M2.out.res (.string nm) (.bool true) (.slice none 0 0);rw [<- hW];refine bodyPost_ret (v:=.agg #[.string nm,.bool true,.slice none 0 0]) (by simp [results,Tryz.results99,go_sem,p0,p1,p2]) rfl ?_;obtain⟨r1,r2⟩:=M2.out.fin hWg;exact⟨none,0,rfl,Nat.le_refl _,RkK.ByT.nil _ _,(fun ad e=>by cases e),r1,r2⟩
 | false =>
  obtain⟨h3,hd⟩:=HF.out rfl;obtain⟨tb,htb⟩ : ∃ tb,tb=(txtS 200000 s2).1:=⟨_,rfl⟩;have htz:tb.size<=200000:=by rw [htb]; exact txt_max s2
  rw [<- htb] at hd;have K2:=H_ (show Calls Tryz.prog 123 #[ptr T,.int .i64 200000] wa2 (Pq wa2 R T (.string tb) s3) from by rw [htb,h3]; exact text_p M2.out.rd 200000);have b1:=M2.out.rd.cells.1;clear h3 htb;go_upto_region 6 with (go_at_call 123; go_loud (
   refine K2.out.mono ?_;rintro e wb2 ⟨rfl,hr,hf⟩;have N2:=H_ (M2.out.keep hf hr);have hcv:=Lib.run_convert_string_bytes (P:=Tryz.prog) wb2 9 37 5 tb Tryz.underlying9 Tryz.underlying37 Tryz.underlying5;have hoo:=conv_oo wb2 tb (by omega);obtain⟨w1,hw1⟩ : ∃ w1,w1=Lib.bytesWorld wb2 5 tb:=⟨_,rfl⟩;obtain⟨cpm,hcpm⟩ : ∃ cpm,cpm=grownCap wb2 tb.size 0 5:=⟨_,rfl⟩;rw [<- hw1,<- hcpm] at hcv hoo;rw [<- hd] at hoo;have hts:tb.size=d.length:=by rw [hd]; rfl
   rw [hts] at hcv hoo;have N3:=H_ (show Rs w w1 R T s3 nm false (.slice none 0 0) from N2.out.keep (Fr2.below hoo.bel R T) (N2.out.rd.go hoo.bel));have HO:=H_ hoo;clear q1;have q0:=N3.out.blk.cell 2;have q1:=N3.out.blk.frozen 2;obtain⟨dl,hdl⟩ : ∃ dl,dl=d.length:=⟨_,rfl⟩;rw [<- hdl] at hcv HO;have HDL:=H_ hdl;clear hr hf b1 hw1 hcpm hoo hts hdl))
  have M4:=H_ (N3.out.setB 2 (.slice (some ⟨wb2.heap.size,0,none⟩) dl cpm) (nm':=nm) (ct':=false) (V':=.slice (some ⟨wb2.heap.size,0,none⟩) dl cpm) rfl rfl);have hsz2:=N2.out.size;have HBy:=H_ (show RkK.ByT (w1.setCell ⟨w.heap.size+1,2,none⟩ (.slice (some ⟨wb2.heap.size,0,none⟩) dl cpm)) (some ⟨wb2.heap.size,0,none⟩) dl d from
   (ow_byT HO.out.own).kp (RkK.Kp.setCell N3.out.blk (by decide) (by decide) 2 _))
  have HCP:=H_ (Ow.slice HO.out.own);clear N2 N3 M2 K2 q0 q1 HO;have hs1:(w1.setCell ⟨w.heap.size+1,2,none⟩ (.slice (some ⟨wb2.heap.size,0,none⟩) dl cpm)).heap.size=w1.heap.size:=by simp [World.setCell]
  generalize (World.setCell w1 _ _)=wa4 at M4 HBy hs1 ⊢;have q0:=M4.out.blk.cell 0;have q1:=M4.out.blk.cell 1;have q2:=M4.out.blk.cell 2;have z0:=M4.out.res.cell 0;have z1:=M4.out.res.cell 1;have z2:=M4.out.res.cell 2;have f0:=M4.out.res.frozen 0;have f1:=M4.out.res.frozen 1;have f2:=M4.out.res.frozen 2;clear hcv;go_wp2_with fail
  obtain⟨W,hW,p0,p1,p2,hWg⟩:=ret3 M4.out.res (.string nm) (.bool false) (.slice (some ⟨wb2.heap.size,0,none⟩) dl cpm);rw [<- hW];refine bodyPost_ret (v:=.agg #[.string nm,.bool false,.slice (some ⟨wb2.heap.size,0,none⟩) dl cpm]) (by simp [results,Tryz.results99,go_sem,p0,p1,p2]) rfl ?_;obtain⟨r1,r2⟩:=M4.out.fin hWg;obtain rfl:=HDL.out;obtain⟨A',cp',e',hle'⟩:=HCP.out;have hcpm2:d.length<=cpm:=by injection e' with _ _ e3; rw [e3]; exact hle'
  have hws:=hWg.size;exact⟨some ⟨wb2.heap.size,0,none⟩,cpm,rfl,hcpm2,HBy.out.kp (RkK.Kp.grown hWg fun g e=>⟨_,_,_,by obtain rfl:=Option.some.inj e; exact M4.out.res,by decide,by decide⟩),(fun ad e=>by obtain rfl:=Option.some.inj e; show w.heap.size<=wb2.heap.size; omega),r1,r2⟩
end Go.Proofs.YtoljpfapphoflaaGreatDoor.SfE

set_option maxHeartbeats 4000000
set_option maxRecDepth 100000
namespace Go.Proofs.YtoljpfapphoflaaGreatDoor.SfF
open Go.RowKit BxD BxKit PkKit PkF SfB SfA SfR SfC SfE RkD RkK RkR RkS
def PaPost (p:List Ch × Nat) (w:World) (e:Ending) (w':World):Prop :=
 ∃ A m c,e = .returned (.tuple #[.slice A m c,.int .i64 (p.2:Nat)])/\m<=c/\ChsP w' 0 w.heap.size w'.heap.size A m p.1/\Below w.heap.size w w'
def lenV:Value->Nat
 | .slice _ n _=>n
 | _=>0
theorem own_block {w w':World} {base e sz n:Nat} {v:Value} {xs:List Value} (h:w.ownsRow base e sz v n xs) (hb : ∀ g,v.ownBlock=some g->w'.heap[g]? = w.heap[g]?):w'.ownsRow base e sz v n xs:=by
 obtain⟨h1,h2⟩:=h;refine⟨h1, ?_⟩;rcases h2 with h2 | ⟨g',cap,cur,rfl,hb2,hg,r⟩
 · exact .inl h2
 · exact .inr ⟨g',cap,cur,rfl,hb2,(hb g' rfl).trans hg,r⟩
def DatOk (w:World) (lo:Nat) (r:RC):Prop:=ByT w r.r.A r.r.d.length r.r.d/\r.r.d.length<=r.r.c/\∀ ad,r.r.A=some ad->lo<=ad.block
structure Pp (w wr:World) (M R T:Nat) (s:Sr) (v:Value) (q:Nat) (rs:List RC):Prop where
 bel:Below w.heap.size w wr
 rd:PRd wr R T s
 wR:w.heap.size<=R
 wT:w.heap.size<=T
 RM:R<M
 TM:T<M
 hM:M<=wr.heap.size
 own:wr.ownsRow M 81 3 v q (cc rs)
 dat : ∀ r∈rs,DatOk wr w.heap.size r
section
variable {w wr w2 : World} {M R T q : Nat} {s s' : Sr} {v : Value} {rs : List RC}
theorem ku_fr2 (h:PRd wr R T s) (hf:Fr2 R T wr w2):Ku wr w2:=by
 intro k hk;refine hf.block k (by obtain⟨cs,fr,h1⟩:=hk; exact (gs_ h1).1) ?_ ?_
 · rintro rfl
   obtain⟨cs,fr,h1⟩:=hk;rw [h.blk] at h1;injection h1 with h1;injection h1 with _ e2;exact absurd e2 (by decide)
 · rintro rfl
   obtain⟨cs,fr,h1⟩:=hk;obtain⟨A,n,cp,hh,_⟩:=h.rd;rw [hh] at h1;injection h1 with h1;injection h1 with _ e2;exact absurd e2 (by decide)
theorem DatOk.ku {lo:Nat} {r:RC} (h:DatOk wr lo r) (hk:Ku wr w2):DatOk w2 lo r:=⟨h.1.ku hk,h.2⟩
theorem Pp.keep (h:Pp w wr M R T s v q rs) (hf:Fr2 R T wr w2) (hr:PRd w2 R T s'):Pp w w2 M R T s' v q rs:=by
 have h1:=h.RM;have h2:=h.TM;exact⟨h.bel.trans (hf.to h.bel.size h.wR h.wT),hr,h.wR,h.wT,h.RM,h.TM,Nat.le_trans h.hM hf.size,
  own_block h.own (fun g e=>hf.block g (h.own.lt g e).2 (by have:=(h.own.lt g e).1; omega) (by have:=(h.own.lt g e).1; omega)),fun r hr'=>(h.dat r hr').ku (ku_fr2 h.rd hf)⟩
theorem Pp.go (h:Pp w wr M R T s v q rs) (hb:Below wr.heap.size wr w2):Pp w w2 M R T s v q rs :=
 h.keep (Fr2.below hb R T) (h.rd.go hb)
theorem Pp.more {v':Value} {r:RC} (h:Pp w wr M R T s v q rs) (hr:DatOk wr w.heap.size r) (hown:w2.ownsRow M 81 3 v' (q+1) (cc rs++cell3 r)) (hg:wr.grownBy w2 v.ownBlock):Pp w w2 M R T s v' (q+1) (rs++[r]):=by
 have h1:=h.RM;have h2:=h.TM;have hk:Ku wr w2:=(Ku.grown hg fun g e=>by
  rcases h.own.2 with⟨hv,_⟩ | ⟨g',cap,cur,hv,_,hgg,_⟩
  · rw [hv] at e; cases e
  · rw [hv] at e
    obtain rfl:g'=g:=Option.some.inj e;exact⟨_,_,_,hgg,by decide⟩)
 have hne : ∀ k,k<M->v.ownBlock≠some k:=fun k hk e=>by have:=(h.own.lt k e).1; omega
 refine⟨h.bel.grown hg h.bel.size (fun g e=>by have:=(h.own.lt g e).1; have:=h.wR; omega),⟨(hg.block R h.rd.lt (fun e=>hne R h1 e.symm)).trans h.rd.blk, ?_,h.rd.ne⟩,h.wR,h.wT,h.RM,h.TM,Nat.le_trans h.hM hg.size, ?_, ?_⟩
 · exact h.rd.rd.below (B:=M) ⟨hg.os,hg.tape,hg.output,hg.size,fun k hk=>hg.block k (Nat.lt_of_lt_of_le hk h.hM) (fun e=>hne k hk e.symm)⟩ h2
 · rw [cc_append,show cc [r]=cell3 r by simp [cc]]
   exact hown
 · intro x hx
   rcases List.mem_append.1 hx with hx | hx
   · exact (h.dat x hx).ku hk
   · obtain rfl:=List.mem_singleton.1 hx
     exact hr.ku hk
theorem Pp.tell {A:Option Addr} {c:Nat} (h:Pp w wr M R T s (.slice A q c) q rs):ChsP wr 0 w.heap.size wr.heap.size A q (rs.map cOf):=by
 have hl:=h.own.1;rw [cc_length] at hl;refine⟨by rw [List.length_map]; omega,fun h0=>?_⟩;rcases h.own.2 with⟨hv,hq⟩ | ⟨g,cap,cur,hv,hb,hg,_⟩
 · omega
 injection hv with hv;subst hv;have hMw:=h.wR;have hRM:=h.RM;refine⟨_,rfl,.inr ⟨by show w.heap.size<=g; omega,(gs_ hg).1⟩,fun j c hj=>?_⟩;rw [List.getElem?_map] at hj;cases hx:rs[j]? with
 | none=>rw [hx] at hj; cases hj
 | some x =>
  rw [hx] at hj;obtain rfl:cOf x=c:=Option.some.inj hj;have hd:=h.dat x (List.mem_of_getElem? hx);have hcell : ∀ f u,f<3->(cell3 x)[f]? = some u->wr.cell? (((⟨g,0,none⟩:Addr).add (j*3)).add f)=some u:=fun f u hf hu=>by
   rw [BxKit.add_add]; exact h.own.cells (g:=g) rfl _ _ ((cc_get rs j f _ hx hf).trans hu)
  have ea : ∀ (q:Addr) (f:Nat),q.add (f+1)=fld q (f+1):=fun q f=>by unfold Addr.add fld; simp
  refine⟨?_, ?_,x.r.A,x.r.c, ?_,hd.2.1,hd.1.1,fun h1=>?_⟩
  · have:=hcell 0 _ (by decide) rfl
    rwa [BxKit.add_add,Nat.add_zero] at this
  · have:=hcell 1 _ (by decide) rfl
    rwa [ea _ 0] at this
  · have:=hcell 2 _ (by decide) rfl
    rwa [ea _ 1] at this
  · obtain⟨ad,e,hk,hc⟩:=hd.1.2 h1
    exact⟨ad,e,.inr ⟨hd.2.2 ad e,by obtain⟨cs,fr,h1⟩:=hk; exact (gs_ h1).1⟩,hc⟩
end
theorem parse_any {w:World} {B n cp:Nat} {A:Option Addr} {l:List UInt8} (h:BytesAt w B A n l) (hB:B<=w.heap.size) (hn:n<=1000000000):Calls Tryz.prog 57 #[.slice A n cp] w (PaPost (parse l) w):=by
 have KN:=H_ (new_p (cp:=cp) h hB (by omega));have hln:=h.1;generalize hf0:parse l=ans;have HA0:=H_ (show mid [] (parse l)=ans by rw [mid_nil]; exact hf0);clear h hf0;go_enter Tryz.func57,Tryz.ntmps57;go_wp2_with (go_at_call 87; go_loud (
  refine KN.out.mono ?_;rintro e w1 ⟨R,T,rfl,hR,hT,hrd,hb⟩;have P1:=H_ (show Pp w w1 w1.heap.size R T (l,0,false) (.slice none 0 0) 0 [] from
   ⟨hb,hrd,hR,hT,hrd.lt,hrd.rd.lt,Nat.le_refl _,World.ownsRow_nil _ _ _ _,fun r hr=>by simp at hr⟩)
  clear hrd hb))
 generalize w1.heap.size=M at P1;go_loopw [5] (fun s5 wr=>∃ (A:Option Addr) (q c:Nat) (rs:List RC) (l2:List UInt8),s5 = .slice A q c/\q+l2.length<=n/\Hid (Pp w wr M R T (l2,0,false) (.slice A q c) q rs)/\Hid (mid (rs.map cOf) (parse l2)=ans)) (fun s5 _=>n-lenV s5)
 case atStart=>exact⟨none,0,0,[],l,rfl,by omega,P1.out,HA0.out⟩
 case round =>
  clear P1 HA0;obtain⟨A,q,c,rs,l2,rfl,hq,P1,HA⟩:=hrel;have KL:=H_ (left_p P1.out.rd);have b0:=P1.out.rd.cells.1;cases l2 with
  | nil =>
   have HE:=H_ ((mid_end _).symm.trans HA.out);go_wp2_with (go_at_call 88; go_loud (
    refine KL.out.mono ?_;rintro e w' ⟨rfl,rfl⟩))
   refine bodyPost_ret (v:=.tuple #[.slice A q c,.int .i64 0]) (by simp [results,Tryz.results57,go_sem]) rfl ?_;obtain⟨A6,k6,e6,hk6⟩:=RkR.own_slice P1.out.own;rw [<- HE.out];exact⟨A,q,c,rfl,by injection e6 with _ _ e6; omega,P1.out.tell,P1.out.bel⟩
  | cons a0 l3 =>
   obtain⟨l2,hl2⟩ : ∃ l2,l2=a0::l3:=⟨_,rfl⟩;have hne:l2≠[]:=by rw [hl2]; exact List.cons_ne_nil _ _
   have hk0:0<l2.length:=by rw [hl2]; simp
   rw [<- hl2] at P1 HA KL hq;obtain⟨k,hk⟩ : ∃ k,k=l2.length:=⟨_,rfl⟩;rw [<- hk] at KL hk0 hq;have HK:=H_ hk;have HNE:=H_ hne;have hki:0<(k:Int):=by omega
   have KR0:=read_any P1.out.rd;obtain⟨x,hx⟩ : ∃ x,x=(rdC (l2,0,false)).1:=⟨_,rfl⟩;obtain⟨s2,hs2⟩ : ∃ s2,s2=(rdC (l2,0,false)).2:=⟨_,rfl⟩;rw [<- hx,<- hs2] at KR0;have KR:=H_ KR0;have HX:=H_ hx;have HS2:=H_ hs2;clear KR0 hx hs2 hk hne hl2;go_upto_region 4 with (go_at_call 88; go_loud (
    refine KL.out.mono ?_;rintro e w' ⟨rfl,rfl⟩))
   go_upto_region 5 with (go_at_call 99; go_loud (
    refine KR.out.mono ?_;rintro e w3 ⟨D,dc,rfl,hle,hby,hge,hr,hf⟩;have P3:=H_ (P1.out.keep hf hr);have HD3:=H_ (show DatOk w3 w.heap.size ⟨x.name,x.cut,⟨D,dc,x.data⟩⟩ from ⟨hby,hle,fun ad e=>Nat.le_trans P1.out.bel.size (hge ad e)⟩);obtain⟨m,hm⟩ : ∃ m,m=x.data.length:=⟨_,rfl⟩;rw [<- hm];have HM:=H_ hm;clear hle hby hge hr hf hm b0))
   have P4:=H_ (P3.out.go ((Below.refl _ _).alloc lr_ (.cells #[.string x.name,.bool x.cut,.slice D m dc] 81)));have HD4:=H_ (HD3.out.ku (Kp.alloc w3 (.cells #[.string x.name,.bool x.cut,.slice D m dc] 81)).ku);have HX4:=H_ (heap_alloc_new w3 (.cells #[.string x.name,.bool x.cut,.slice D m dc] 81));obtain⟨X,hXe⟩ : ∃ X,X=w3.heap.size:=⟨_,rfl⟩;rw [<- hXe] at HX4 ⊢;clear hXe P1 P3 HD3 KR KL;generalize (World.alloc w3 _)=w4 at P4 HD4 HX4 ⊢;have KE:=H_ (err_p P4.out.rd);by_cases hz:firstS s2=0
   · rw [hz] at KE
     have hls:=rd_less (l:=l2) (by rw [<- HS2.out]; exact hz);rw [<- HS2.out,<- HK.out] at hls;have HE:=H_ (show mid (rs.map cOf++[x]) (parse s2.1)=ans from by rw [HX.out,HS2.out]; exact (mid_step HNE.out (by rw [<- HS2.out]; exact hz)).symm.trans HA.out);have hz2:s2=(s2.1,0,false):=by
      obtain⟨h1,h2⟩:=first_ok.1 hz;exact Prod.ext rfl (Prod.ext h1 h2)
     obtain⟨l4,hl4⟩ : ∃ l4,l4=s2.1:=⟨_,rfl⟩;rw [<- hl4] at HE hls hz2;rw [hz2] at P4;clear hz hz2 hl4 HS2 HX;go_upto_region 8 with (go_at_call 90; go_loud (
      refine KE.out.mono ?_;rintro e w' ⟨rfl,rfl⟩))
     clear KE;have cX:=fun o=>cell_of_row w4 X o _ _ _ HX4.out;have d0:=(cX 0).trans (show _=some (Value.string x.name) from rfl);have d1:=(cX 1).trans (show _=some (Value.bool x.cut) from rfl);have d2:=(cX 2).trans (show _=some (Value.slice D m dc) from rfl);clear cX;have O8:=H_ (P4.out.own.alloc (.cells #[.string x.name,.bool x.cut,.slice D m dc] 81));have S8:=H_ (src_new w4 #[.string x.name,.bool x.cut,.slice D m dc] 81 (b:=w4.heap.size) (m:=1) (sz:=3) rfl rfl (by intro u hu; simp at hu; rcases hu with h | h | h <;> (subst h; rfl)));have Z8:=H_ (show M<=(w4.alloc (.cells #[.string x.name,.bool x.cut,.slice D m dc] 81)).heap.size by have:=P4.out.hM; simp; omega);go_wp2_with (at_builtin; go_loud (
      refine wpList_rows elC rfl _ _ rfl rfl rfl O8.out S8.out (by unfold maxLen; omega) (by omega) Z8.out ?_;intro v9 w9 hown9 hg9 hat9;obtain⟨A9,k9,rfl,hk9⟩:=own_slice hown9;have P9:=H_ ((P4.out.go ((Below.refl _ _).alloc lr_ (.cells #[.string x.name,.bool x.cut,.slice D m dc] 81))).more (r:=⟨x.name,x.cut,⟨D,dc,x.data⟩⟩) (HD4.out.ku (Kp.alloc w4 (.cells #[.string x.name,.bool x.cut,.slice D m dc] 81)).ku) (by unfold cell3; simp only; rw [<- HM.out]; exact hown9) hg9);clear hown9 hg9 hat9 d0 d1 d2))
     clear O8 S8 Z8;go_roundw
     case rel=>exact⟨A9,q+1,k9,rs++[⟨x.name,x.cut,⟨D,dc,x.data⟩⟩],l4,rfl,by omega,P9,by
      show mid _ _=_;rw [List.map_append];exact HE.out⟩
     case measure=>simp [lenV]; omega
   · obtain⟨er,her⟩ : ∃ er,er=firstS s2:=⟨_,rfl⟩
     have HE:=H_ (show ans=([],er) from by rw [her,HS2.out]; exact HA.out.symm.trans (mid_bad HNE.out (by rw [<- HS2.out]; exact hz)));rw [<- her] at KE hz;have hzi:((er:Int) != 0)=true:=by simpa using (by omega : ¬ (er:Int)=0)
     clear her;go_wp2_with (go_at_call 90; go_loud (
      refine KE.out.mono ?_;rintro e w' ⟨rfl,rfl⟩))
     refine bodyPost_ret (v:=.tuple #[.slice none 0 0,.int .i64 (er:Int)]) (by simp [results,Tryz.results57,go_sem]) rfl ?_;rw [HE.out];exact⟨none,0,0,rfl,Nat.le_refl _,ChsP.nil _ _ _ _ _,P4.out.bel⟩
end Go.Proofs.YtoljpfapphoflaaGreatDoor.SfF
