/-
  HoM + HoU + HoW
-/
import Derived.Test.YtoljpfapphoflaaGreatDoorH3
import Derived.Test.YtoljpfapphoflaaGreatDoorH2
import Derived.Test.YtoljpfapphoflaaGreatDoorH1
set_option linter.unusedVariables false
set_option linter.unusedSimpArgs false
set_option maxHeartbeats 8000000
set_option maxRecDepth 100000
namespace Go.Proofs.YtoljpfapphoflaaGreatDoor.HoM
open Go.RowKit BxD BxKit RwD RwKit ImD ImA ImL HoD HoF HoA HoL HoC
open RkD (F St rdF)
open RkM (ptr)
open RkP (below_alloc)
open SfC (byP ChsP)
open SfU (Cl)
open SfV (Fk)
open SfO (Sx)
open PkKit (BytesAt)
open RpH (small)
def moL (id:ByteArray) (b:Box) (l part:List Row):List RkD.Ch:=if moE b l part=0 then chMore id (RpD.bytesR (l++part)) else []
theorem moL_no {id:ByteArray} {b:Box} {l part:List Row} {E:Int} (h:moE b l part=E) (h0:E≠0):ChOutE (moL id b l part) (moE b l part)=ChOutE [] E:=by
 unfold moL
 rw [if_neg (by rw [h]; exact h0),h]
theorem kept_may {D:List F} {id:ByteArray} {kf:Nat} {b0 b:Box} {l:List Row} (hp:Kept D id kf b0 l b):mbE b=0∧b.id=id:=by
 have h1:=pj_may (fmI_is kf) hp.may
 obtain⟨h2,h3⟩:=allG_grows _ l h1 (by rw [hp.all])
 rw [hp.all] at h2 h3
 exact⟨h2,h3.id.trans hp.id0⟩
theorem nilE (w w':World) (E:Int) (h:Below w.heap.size w w'):ChOutE [] E w (.returned (.tuple #[.slice none 0 0,.int .i64 E])) w':=⟨none,0,0,rfl,SfC.ChsP.nil _ _ _ _ _,h⟩
section
variable {base T S lo hi k : Nat} {w : World} {s : St} {D : List F} {id : ByteArray}
theorem more_any (h:Sx base T S lo hi k w s) (h6:k≤900) (ht:BxO.Tab w) (hC:Cl D 1000000 s) (hK:Fk D) {kf:Nat} {b0 b:Box} {l part:List Row} (hp:Kept D id kf b0 l b)
 {B rn rcp:Nat} {RA:Option Addr} (hr:RowsAt w B RA rn part) (hB:B≤w.heap.size) (hrc:rn≤rcp) (hr6:rn≤1000) (hsm : ∀ r∈part,small r) :
 Calls Tryz.prog 14 #[ptr S,.string id,.slice RA rn rcp] w (ChOutE (moL id b l part) (moE b l part) w):=by
 have KL:=Lib.hid (load_ok h h6 ht hC hK hp)
 obtain⟨hbm,hbi⟩:=kept_may hp
 have hib:id.size≤200:=by have:=(head_parts ((mb_iff b).1 hbm).1).2.1; rw [hbi] at this; omega
 have hll:=hp.len
 have HSM:=Lib.hid (show ∀ r∈l++part,small r from fun r hr=>by
  rcases List.mem_append.1 hr with hr | hr
  · exact HoP.gr_small hp.gr r hr
  · exact hsm r hr)
 have HKY:=Lib.hid (show ∀ r∈part,r.msg.keys.length≤17592186044416 from fun r hr=>by have:=(hsm r hr).1; omega)
 have HR:=Lib.hid hr
 have hrl:=hr.len
 have HBM:=Lib.hid hbm
 obtain⟨ln,hln⟩ : ∃ ln,ln=l.length:=⟨_,rfl⟩
 rw [← hln] at hll
 have HLN:=Lib.hid hln
 have HRL:=Lib.hid hrl
 have HE:=Lib.hid (show moE b l part=if (allG b part).2≠0 then (allG b part).2 else if 200<ln+rn then 4 else if (RpD.bytesR (l++part)).length=0∧0<rn then 1 else 0 by unfold moE; rw [hln,hrl])
 have hns : ¬ 9223372036854775807<1+id.size:=by omega
 have hal:allP b part=allG b part:=by unfold allP; rw [if_pos hbm]
 have HAL:=Lib.hid hal
 unfold KeptOut at KL
 unfold ptr at *
 clear h ht hC hK hp hr hsm hbm hbi hln hrl hal
 obtain⟨E1,hE1⟩ : ∃ E1,E1=(allG b part).2:=⟨_,rfl⟩
 rw [← hE1] at HE
 have HE1:=Lib.hid hE1
 clear hE1
 go_enter Tryz.func14,Tryz.ntmps14
 go_upto_region 4 with (go_at_call 16; go_loud (
  refine KL.out.mono ?_
  rintro e w1 ⟨WA,wn,wc,MA,mn,mc,A,n,c,rfl,hwc,hmc,hc,hws,hms,hrs,hb⟩
  have B1:=Lib.hid hb
  have V1:=Lib.hid (And.intro hws (And.intro hms hrs))
  clear hb hws hms hrs))
 have hn1:n=ln:=by rw [HLN.out,V1.out.2.2.len]
 subst hn1
 have B2:=Lib.hid (below_alloc w1 (.cells #[.string b.id,.int .i64 b.valid,.int .i64 b.next,.int .i64 b.high,.slice WA wn wc,.slice MA mn mc,.int .i64 (kf:Nat),.slice A n c] 48))
 have N2:=Lib.hid (heap_alloc_new w1 (.cells #[.string b.id,.int .i64 b.valid,.int .i64 b.next,.int .i64 b.high,.slice WA wn wc,.slice MA mn mc,.int .i64 (kf:Nat),.slice A n c] 48))
 have hs2:(w1.alloc (.cells #[.string b.id,.int .i64 b.valid,.int .i64 b.next,.int .i64 b.high,.slice WA wn wc,.slice MA mn mc,.int .i64 (kf:Nat),.slice A n c] 48)).heap.size=w1.heap.size+1:=by simp
 have hs1:=B1.out.size
 obtain⟨K,hK⟩ : ∃ K,K=w1.heap.size:=⟨_,rfl⟩
 have V2:=Lib.hid (And.intro (StrsAt.below V1.out.1 B2.out (Nat.le_refl _)) (And.intro (MsgsAt.below V1.out.2.1 B2.out (Nat.le_refl _)) (RowsAt.below V1.out.2.2 B2.out (Nat.le_refl _))))
 have C2:=Lib.hid (B1.out.trans (B2.out.mono hs1))
 rw [← hK] at N2 hs2 hs1 V2 ⊢
 clear hK KL
 generalize (World.alloc w1 _)=w2 at B2 N2 hs2 V2 C2 ⊢
 have cX:=fun o=>cell_of_row w2 K o _ _ _ N2.out
 have q0:=(cX 0).trans (show _=some (Value.string b.id) from rfl)
 have q1:=(cX 1).trans (show _=some (Value.int .i64 b.valid) from rfl)
 have q2:=(cX 2).trans (show _=some (Value.int .i64 b.next) from rfl)
 have q3:=(cX 3).trans (show _=some (Value.int .i64 b.high) from rfl)
 have q4:=(cX 4).trans (show _=some (Value.slice WA wn wc) from rfl)
 have q5:=(cX 5).trans (show _=some (Value.slice MA mn mc) from rfl)
 clear cX
 have KA:=Lib.hid (RwW10.all_any (cp:=rcp) (b:=b) (B:=w2.heap.size) (StrsAt.more V2.out.1 (by omega)) (MsgsAt.more V2.out.2.1 (by omega)) hwc hmc (Nat.le_refl _) (RowsAt.more (RowsAt.below HR.out C2.out hB) (by omega)) hrc HKY.out)
 rw [HAL.out,← HE1.out] at KA
 obtain⟨nb,hnb⟩ : ∃ nb,nb=(allG b part).1:=⟨_,rfl⟩
 rw [← hnb] at KA
 clear hnb
 unfold BoxOut at KA
 go_upto_region 5 with (go_at_call 33; go_loud (
  refine KA.out.mono ?_
  rintro e w3 ⟨WB,un,uc,MB,vn,vc,rfl,_,_,_,hb⟩
  have B3:=Lib.hid (hb.trans ((below_alloc w3 (.cells #[.string nb.id,.int .i64 nb.valid,.int .i64 nb.next,.int .i64 nb.high,.slice WB un uc,.slice MB vn vc] 25)).mono hb.size))
  clear hb q0 q1 q2 q3 q4 q5))
 generalize (World.alloc w3 _)=w4 at B3 ⊢
 by_cases h1:E1=0
 case neg =>
  have hne:(E1 != 0)=true:=by simpa using h1
  have HP:=Lib.hid (show ∀ wr,Below w2.heap.size w2 wr→ChOutE (moL id b l part) (moE b l part) w (.returned (.tuple #[.slice none 0 0,.int .i64 E1])) wr from fun wr hb=>by
   rw [moL_no (E:=E1) (by rw [HE.out,if_pos h1]) h1]
   exact nilE _ _ _ (C2.out.trans (hb.mono C2.out.size)))
  clear h1
  go_wp2_with fail
  go_ret2
  exact HP.out _ B3.out
 subst h1
 have HE2:=Lib.hid (show moE b l part=if 200<n+rn then 4 else if (RpD.bytesR (l++part)).length=0∧0<rn then 1 else 0 by rw [HE.out,if_neg (by simp)])
 clear HE
 have N4:=Lib.hid ((B3.out.block K (by omega)).trans N2.out)
 have q7:=(cell_of_row w4 K 7 _ _ _ N4.out).trans (show _=some (Value.slice A n c) from rfl)
 have hs4:=B3.out.size
 have B5:=Lib.hid (below_alloc w4 (.cells #[.slice A n c,.slice RA rn rcp] 26))
 have N5:=Lib.hid (heap_alloc_new w4 (.cells #[.slice A n c,.slice RA rn rcp] 26))
 have hs5:(w4.alloc (.cells #[.slice A n c,.slice RA rn rcp] 26)).heap.size=w4.heap.size+1:=by simp
 have C5:=Lib.hid (C2.out.trans ((B3.out.trans (B5.out.mono hs4)).mono C2.out.size))
 have C25:=Lib.hid (B3.out.trans (B5.out.mono hs4))
 have KC0:=fun (h1:B≤(w4.alloc (.cells #[.slice A n c,.slice RA rn rcp] 26)).heap.size)=>concat_any (c1:=c) (c2:=rcp) (g:=w4.heap.size) (w:=w4.alloc (.cells #[.slice A n c,.slice RA rn rcp] 26)) (RowsAt.below V2.out.2.2 C25.out (show K≤w2.heap.size by omega)) (RowsAt.below HR.out C5.out hB) (by omega) h1 (by omega) ((cell_of_row _ w4.heap.size 0 _ _ _ N5.out).trans rfl) ((cell_of_row _ w4.heap.size 1 _ _ _ N5.out).trans rfl) (by omega)
 have KC:=Lib.hid (KC0 (Nat.le_trans hB C5.out.size))
 clear KC0
 unfold OwR at KC
 go_upto_region 8 with (go_at_call 34; go_loud (
  refine KC.out.mono ?_
  rintro e w6 ⟨A6,n6,c6,rfl,hc6,hr,hb⟩
  have V6:=Lib.hid hr
  have C6:=Lib.hid (C5.out.trans (hb.mono C5.out.size))
  clear hr hb))
 have hn6:n6=n+rn:=by have:=V6.out.len; rw [List.length_append,← HLN.out,HRL.out] at this; omega
 clear q7 KC B5 N5 N4 N2 B3 B2 C2 C25 V2 V1 B1 hs5 hs4 hs2 hs1
 by_cases h2:200<n+rn
 · have h2i:(200:Int)<(n6:Int):=by omega
   have HP:=Lib.hid (show ChOutE (moL id b l part) (moE b l part) w (.returned (.tuple #[.slice none 0 0,.int .i64 4])) w6 from by
    rw [moL_no (E:=4) (by rw [HE2.out,if_pos h2]) (by decide)]
    exact nilE _ _ _ C6.out)
   clear hn6
   go_wp2_with fail
   go_ret2
   exact HP.out
 have h2i : ¬ (200:Int)<(n6:Int):=by omega
 have HE3:=Lib.hid (show moE b l part=if (RpD.bytesR (l++part)).length=0∧0<rn then 1 else 0 by rw [HE2.out,if_neg h2])
 clear HE2 h2 hn6
 have KB:=Lib.hid (RpY.bytes_any (cp:=c6) V6.out (Nat.le_refl _) HSM.out)
 unfold RpY.BsOut at KB
 go_upto_region 11 with (go_at_call 35; go_loud (
  refine KB.out.mono ?_
  rintro e w7 ⟨A7,n7,c7,rfl,hc7,_,hz,hb,hf⟩
  have Z7:=Lib.hid hz
  have C7:=Lib.hid (C6.out.trans (hb.mono C6.out.size))
  have F7:=Lib.hid (show ∀ ad:Addr,A7=some ad→w.heap.size≤ad.block from fun ad e=>Nat.le_trans C6.out.size (hf ad e))
  clear hz hb hf))
 have HN7:=Lib.hid (show n7=(RpD.bytesR (l++part)).length from Z7.out.1.symm)
 rw [← HN7.out] at HE3
 by_cases h3:n7=0∧0<rn
 · have h3a:((n7:Int)==0)=true:=by simpa using h3.1
   have h3b:(0:Int)<(rn:Int):=by omega
   have HP:=Lib.hid (show ChOutE (moL id b l part) (moE b l part) w (.returned (.tuple #[.slice none 0 0,.int .i64 1])) w7 from by
    rw [moL_no (E:=1) (by rw [HE3.out,if_pos h3]) (by decide)]
    exact nilE _ _ _ C7.out)
   obtain⟨rfl,_⟩:=h3
   go_wp2_with fail
   go_ret2
   exact HP.out
 have hE0:moE b l part=0:=by rw [HE3.out,if_neg h3]
 have B8:=Lib.hid (below_alloc w7 (.cells #[.string (⟨#[114]⟩++id),.bool false,.slice A7 n7 c7] 81))
 have N8:=Lib.hid (heap_alloc_new w7 (.cells #[.string (⟨#[114]⟩++id),.bool false,.slice A7 n7 c7] 81))
 have hs8:(w7.alloc (.cells #[.string (⟨#[114]⟩++id),.bool false,.slice A7 n7 c7] 81)).heap.size=w7.heap.size+1:=by simp
 have HP:=Lib.hid (show ChOutE (moL id b l part) (moE b l part) w (.returned (.tuple #[.slice (some ⟨w7.heap.size,0,none⟩) 1 1,.int .i64 0])) (w7.alloc (.cells #[.string (⟨#[114]⟩++id),.bool false,.slice A7 n7 c7] 81)) from by
  have g1:=C7.out.size
  have e:moL id b l part=chMore id (RpD.bytesR (l++part)):=if_pos hE0
  rw [e,hE0]
  exact⟨_,1,1,rfl,chs1 N8.out ⟨by omega,by omega⟩ hc7 (byP_new (Z7.out.below B8.out (Nat.le_refl _)) (by omega) F7.out),C7.out.trans (B8.out.mono g1)⟩)
 clear B8 N8 hs8 hE0
 by_cases h4:n7=0
 · subst h4
   have h5:rn=0:=by omega
   subst h5
   go_wp2_with fail
   go_ret2
   exact HP.out
 · have h4a:((n7:Int)==0)=false:=by simpa using h4
   clear h3 h4
   go_wp2_with fail
   go_ret2
   exact HP.out
end
end Go.Proofs.YtoljpfapphoflaaGreatDoor.HoM

set_option maxHeartbeats 4000000
set_option maxRecDepth 100000
namespace Go.Proofs.YtoljpfapphoflaaGreatDoor.HoU
open Go.RowKit BxD BxKit RwKit HoF HoA HoK
open RwD (allG mb_iff head_parts)
open RkD (F St rdF newS SrtF Ch)
open RkM (ptr)
open RkP (below_alloc)
open SfC (byP ChsP)
open SfK (Rx Fq newX)
open SfO (Sx comE comS)
open SfE (szC)
open SfP (open_any commit_any chs_base opE opS)
open SfT (lkF dall)
open SfU (Cl)
open SfV (Fk op_cl op_few_cl new_cl)
open ImD (re)
open ImL (rawI fmI)
open RpD (bytesR)
structure Rs (T S k:Nat) (w:World) (D:List F) (s:St):Prop where
 sx:Sx T T S 0 0 k w s
 cl:Cl D 1000000 s
 fk:Fk D
 fu:s.fuse=none
theorem Rs.go {T S k:Nat} {w w':World} {D:List F} {s:St} (h:Rs T S k w D s) (hb:Below w.heap.size w w'):Rs T S k w' D s:=⟨h.sx.go hb,h.cl,h.fk,h.fu⟩
theorem Rs.lt {T S k:Nat} {w:World} {D:List F} {s:St} (h:Rs T S k w D s):T<w.heap.size:=h.sx.rx.lt
theorem szC3 {id:ByteArray} {x y:List UInt8} (hz:id.size≤12) (hx:x.length≤51000) (hy:y.length≤87200):szC (chPut id x y):=by
 have e1:(fI id).size=1+id.size:=sz1 105 id
 have e2:(fR id).size=1+id.size:=sz1 114 id
 have e3:(fS id).size=1+id.size:=sz1 115 id
 intro c hc
 unfold chPut at hc
 simp only [List.mem_cons,List.not_mem_nil,or_false] at hc
 rcases hc with rfl | rfl | rfl <;> constructor <;> simp <;> omega
theorem szC1 {id:ByteArray} {y:List UInt8} (hz:id.size≤12) (hy:y.length≤87200):szC (chMore id y):=by
 have e2:(fR id).size=1+id.size:=sz1 114 id
 intro c hc
 unfold chMore at hc
 simp only [List.mem_cons,List.not_mem_nil,or_false] at hc
 rcases hc with rfl; constructor <;> simp <;> omega
theorem commit_rs {T S k n cp:Nat} {w0 w:World} {D:List F} {s:St} {A:Option Addr} {l:List Ch} (h:Rs T S k w0 D s) (hb:Below w0.heap.size w0 w) (hL:ChsP w 0 w0.heap.size w.heap.size A n l) (h6:k+n≤890) (hn:n≤1000) (hz:szC l) (hf:SfD.fitE s l=0) :
 Calls Tryz.prog 15 #[ptr S,.slice A n cp] w fun e w'=>e = .returned (.int .i64 0)∧Rs T S (k+n+2) w' (dall D l) (comS s l)∧Fq T T w0.heap.size w.heap.size w w':=by
 obtain⟨h1,h2,h3,h4⟩:=com_fit h.cl h.fk h.fu hf
 refine (commit_any (cp:=cp) (h.sx.win hb) h6 (chs_base hL) hn hz).mono ?_
 rintro e w' ⟨rfl,g1,g2⟩
 rw [h1]
 exact⟨rfl,⟨g1.shut,h2,h3,h4⟩,g2⟩
def FullOut (k:Nat) (b:Box) (w:World) (e:Ending) (w':World):Prop :=
 ∃ T S s,e = .returned (.tuple #[ptr T,ptr S])∧w.heap.size≤T∧Rs T S 6 w' (dall [] (chPut b.id (rawI k b) (bytesR (re (fmI k) b)))) s∧Below w.heap.size w w'
theorem full_ok {k:Nat} (hk:k=1∨k=2∨k=3) {w:World} {B wn wcp mn mcp:Nat} {WA MA:Option Addr} {b:Box} (ht:BxO.Tab w) (hx:StrsAt w B WA wn b.words) (hm:MsgsAt w B MA mn b.msgs) (hB:B≤w.heap.size) (hwc:wn≤wcp) (hmc:mn≤mcp) (h0:mbE b=0) :
 Calls Tryz.prog 11 #[.int .i64 (k:Nat),.agg #[.string b.id,.int .i64 b.valid,.int .i64 b.next,.int .i64 b.high,.slice WA wn wcp,.slice MA mn mcp]] w (FullOut k b w):=by
 have A0:=Lib.hid (After.start w (.cells #[.string b.id,.int .i64 b.valid,.int .i64 b.next,.int .i64 b.high,.slice WA wn wcp,.slice MA mn mcp] 25))
 have hid:=(head_parts ((mb_iff b).1 h0).1).2.1
 have KP:=Lib.hid (fun (wr:World) (hb:Below w.heap.size w wr)=>HoP.put_ok hk (wcp:=wcp) (mcp:=mcp) (ht.below hb (Nat.le_refl _)) (StrsAt.below hx hb hB) (MsgsAt.below hm hb hB) (Nat.le_trans hB hb.size) hwc hmc h0)
 have hx1:=raw_51 (k:=k) h0
 have hy1:=HoD.gr_len (HoD.re_gr (f:=fmI k) h0) (by have:=ImD.re_len (ImL.fmI_is k) h0; omega)
 have HZ:=Lib.hid (szC3 hid hx1 hy1)
 have HF:=Lib.hid (fun s (hC:Cl [] 1000000 s)=>fit_put (ids:=[b.id]) hC List.Pairwise.nil (few_nil _) (by simp) (by simp) hid hx1 hy1)
 unfold FullOut
 obtain⟨L,hL⟩ : ∃ L,L=chPut b.id (rawI k b) (bytesR (re (fmI k) b)):=⟨_,rfl⟩
 have HL3:=Lib.hid (show L.length=3 by rw [hL]; rfl)
 rw [← hL] at KP HZ HF ⊢
 clear hx hm ht h0 hk hx1 hy1 hid hL
 unfold ptr at *
 go_enter Tryz.func11,Tryz.ntmps11
 go_upto_region 1 with fail
 generalize (World.alloc w _)=w1 at A0 ⊢
 have hs1:=A0.out.size
 obtain⟨T,hT⟩ : ∃ T,T=w1.heap.size:=⟨_,rfl⟩
 have KN:=Lib.hid (newX w1 w1.heap.size 1000000 (Nat.le_refl _))
 obtain⟨s0,hs0⟩ : ∃ s0,s0=newS 1000000:=⟨_,rfl⟩
 have C0:=Lib.hid (show Cl [] 1000000 s0∧s0.fuse=none by rw [hs0]; exact new_cl 1000000)
 rw [← hs0,← hT] at KN
 have HT:=Lib.hid hT
 unfold ptr at KN
 clear hs0 hT
 go_upto_region 2 with (go_at_call 26; go_loud (refine KN.out.mono ?_; rintro e w2 ⟨rfl,h1,h2⟩; have R2:=Lib.hid h1; have B2:=Lib.hid h2; clear h1 h2))
 have o1:=op_cl C0.out.1 Fk.nil
 have KO:=Lib.hid (open_any (J:=0) R2.out (by omega) (op_few_cl C0.out.1 Fk.nil))
 rw [o1.1,o1.2.1] at KO
 unfold SfP.OpP ptr at KO
 clear o1 KN
 go_upto_region 3 with (go_at_call 27; go_loud (
  refine KO.out.mono ?_
  rintro e w3 ⟨v,rfl,h1,h2,_,h4⟩
  obtain⟨S,rfl,h5,_⟩:=h4 rfl
  have S3:=Lib.hid (show Rs T S 1 w3 [] s0 from ⟨⟨h1,h5⟩,C0.out.1,Fk.nil,C0.out.2⟩)
  have B3:=Lib.hid (show Below w1.heap.size w1 w3 from by rw [← HT.out]; exact B2.out.trans (h2.to R2.out.bs))
  have A3:=Lib.hid (A0.out.go B3.out)
  clear h1 h2 h4 h5))
 clear KO B2 R2
 obtain⟨c0,c1,c2,c3,c4,c5⟩:=A3.out.box
 have KP3:=Lib.hid (KP.out _ A3.out.below)
 unfold ChOutE at KP3
 go_upto_region 4 with (go_at_call 18; go_loud (
  refine KP3.out.mono ?_
  rintro e w4 ⟨A,n,c,rfl,hch,hb⟩
  have L4:=Lib.hid hch
  have B4:=Lib.hid hb
  have A4:=Lib.hid (A3.out.go hb)
  clear hch hb c0 c1 c2 c3 c4 c5))
 have hn:n=3:=by rw [← L4.out.1]; exact HL3.out
 subst hn
 clear KP KP3
 have KC:=Lib.hid (commit_rs (cp:=c) S3.out B4.out L4.out (by omega) (by omega) HZ.out (HF.out _ S3.out.cl))
 unfold ptr at KC
 go_wp2_with (go_at_call 15; go_loud (
  refine KC.out.mono ?_
  rintro e w5 ⟨rfl,h1,h2⟩
  have S5:=Lib.hid h1
  have B5:=Lib.hid (A4.out.below.trans ((h2.to (by have:=S3.out.lt; have:=B4.out.size; omega)).mono (by have:=A0.out.below.size; rw [HT.out]; omega)))
  clear h1 h2))
 refine bodyPost_ret (v:=.tuple #[.pointer (some ⟨T,0,none⟩),.pointer (some ⟨S,0,none⟩)]) (by simp [results,Tryz.results11,go_sem]) rfl ?_
 exact⟨T,S,_,rfl,by have:=A0.out.below.size; rw [HT.out]; omega,S5.out,B5.out⟩
end Go.Proofs.YtoljpfapphoflaaGreatDoor.HoU

set_option maxHeartbeats 4000000
set_option maxRecDepth 100000
namespace Go.Proofs.YtoljpfapphoflaaGreatDoor.HoW
open Go.RowKit BxD BxKit RwKit HoF HoA HoK HoU
open RkM (ptr)
open RkP (below_alloc)
open ImD (re fm1)
open ImL (rawI fmI)
def bx0:Box:=⟨⟨#[98,49]⟩,5,1,9,[],[]⟩
theorem bx_may:mbE bx0=0:=by decide +kernel
theorem bx_rows:(re (fmI 1) bx0).length=1:=by decide +kernel
theorem awake {w:World} (ht:BxO.Tab w):Calls Tryz.prog 10 #[] w fun e w'=>e = .returned (.bool true)∧Below w.heap.size w w':=by
 have KF:=Lib.hid (show Calls Tryz.prog 11 #[.int .i64 1,.agg #[.string ⟨#[98,49]⟩,.int .i64 5,.int .i64 1,.int .i64 9,.slice none 0 0,.slice none 0 0]] w (FullOut 1 bx0 w) from full_ok (k:=1) (.inl rfl) (b:=bx0) ht (RowAt.nil _ _ _ _ _) (RowAt.nil _ _ _ _ _) (Nat.le_refl _) (Nat.le_refl _) (Nat.le_refl _) bx_may)
 have HK:=Lib.hid (kept_put (D:=[]) (k:=1) List.Pairwise.nil (.inl rfl) bx_may)
 have HT:=Lib.hid ht
 have HN:=Lib.hid bx_rows
 unfold FullOut ptr at KF
 clear ht
 go_enter Tryz.func10,Tryz.ntmps10
 go_upto_region 2 with (go_at_call 11; go_loud (
  refine KF.out.mono ?_
  rintro e w1 ⟨T,S,s,rfl,hT,h1,h2⟩
  have R1:=Lib.hid h1
  have B1:=Lib.hid h2
  clear h1 h2 hT))
 have KL:=Lib.hid (show Calls Tryz.prog 16 #[.pointer (some ⟨S,0,none⟩),.string ⟨#[98,49]⟩] w1 (KeptOut bx0 1 (re (fmI 1) bx0) w1) from HoL.load_ok R1.out.sx (by omega) (HT.out.below B1.out (Nat.le_refl _)) R1.out.cl R1.out.fk HK.out)
 unfold KeptOut at KL
 go_upto_region 3 with (go_at_call 16; go_loud (
  refine KL.out.mono ?_
  rintro e w2 ⟨WA,wn,wc,MA,mn,mc,A,n,c,rfl,_,_,_,_,_,hr,hb⟩
  have hn:n=1:=by rw [← hr.len]; exact HN.out
  have B2:=Lib.hid (B1.out.trans (hb.mono B1.out.size))
  clear hr hb))
 subst hn
 have hN:=heap_alloc_new w2 (.cells #[.string bx0.id,.int .i64 bx0.valid,.int .i64 bx0.next,.int .i64 bx0.high,.slice WA wn wc,.slice MA mn mc,.int .i64 1,.slice A 1 c] 48)
 have B3:=Lib.hid (B2.out.trans ((below_alloc w2 (.cells #[.string bx0.id,.int .i64 bx0.valid,.int .i64 bx0.next,.int .i64 bx0.high,.slice WA wn wc,.slice MA mn mc,.int .i64 1,.slice A 1 c] 48)).mono B2.out.size))
 have KG:=Lib.hid (fun (wr:World)=>gone_any ⟨#[98,49]⟩ wr (by decide))
 unfold ChOut at KG
 obtain⟨X,hX⟩ : ∃ X,X=w2.heap.size:=⟨_,rfl⟩
 rw [← hX] at hN ⊢
 clear hX KF KL B2
 generalize (World.alloc w2 _)=w3 at hN B3 ⊢
 have cX:=fun o=>cell_of_row w3 X o _ _ _ hN
 have q3:=(cX 3).trans (show _=some (Value.int .i64 9) from rfl)
 have q6:=(cX 6).trans (show _=some (Value.int .i64 1) from rfl)
 have q7:=(cX 7).trans (show _=some (Value.slice A 1 c) from rfl)
 clear cX hN
 go_wp2_with (go_at_call 19; go_loud (
  refine (KG.out _).mono ?_
  rintro e w4 ⟨A4,n4,c4,rfl,hch,hb⟩
  have hn4:n4=3:=by rw [← hch.1]; rfl
  have B4:=Lib.hid (B3.out.trans (hb.mono B3.out.size))
  clear hch hb
  subst hn4))
 go_ret
 exact⟨rfl,B4.out⟩
end Go.Proofs.YtoljpfapphoflaaGreatDoor.HoW
