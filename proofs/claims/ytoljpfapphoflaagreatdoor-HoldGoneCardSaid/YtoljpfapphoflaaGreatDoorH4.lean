/-
  HoU + HoW
-/
import Derived.Test.YtoljpfapphoflaaGreatDoorH3
import Derived.Test.YtoljpfapphoflaaGreatDoorH1
set_option linter.unusedVariables false
set_option linter.unusedSimpArgs false
set_option maxHeartbeats 4000000
set_option maxRecDepth 100000
namespace Go.Proofs.YtoljpfapphoflaaGreatDoor.HoU
open Go.RowKit BxD BxKit RwKit HoF HoA HoK
open RwD (allG mb_iff head_parts)
open RkD (F St rdF newS SrtF Ch)
open RkM (ptr)
open RkP (below_alloc)
open SfC (byP ChsP)
open SfK (Rx Fq newX)
open SfO (Sx comE comS)
open SfE (szC)
open SfP (open_any commit_any chs_base opE opS)
open SfT (lkF dall)
open SfU (Cl)
open SfV (Fk op_cl op_few_cl new_cl)
open ImD (re)
open ImL (rawI fmI)
open RpD (bytesR)
structure Rs (T S k:Nat) (w:World) (D:List F) (s:St):Prop where
 sx:Sx T T S 0 0 k w s
 cl:Cl D 1000000 s
 fk:Fk D
 fu:s.fuse=none
theorem Rs.go {T S k:Nat} {w w':World} {D:List F} {s:St} (h:Rs T S k w D s) (hb:Below w.heap.size w w'):Rs T S k w' D s:=⟨h.sx.go hb,h.cl,h.fk,h.fu⟩
theorem Rs.lt {T S k:Nat} {w:World} {D:List F} {s:St} (h:Rs T S k w D s):T<w.heap.size:=h.sx.rx.lt
theorem szC3 {id:ByteArray} {x y:List UInt8} (hz:id.size<=12) (hx:x.length<=51000) (hy:y.length<=87200):szC (chPut id x y):=by
 have e1:(fI id).size=1+id.size:=sz1 105 id;have e2:(fR id).size=1+id.size:=sz1 114 id;have e3:(fS id).size=1+id.size:=sz1 115 id;intro c hc;unfold chPut at hc;simp only [List.mem_cons,List.not_mem_nil,or_false] at hc;rcases hc with rfl | rfl | rfl <;> constructor <;> simp <;> omega
theorem szCg {id:ByteArray} (hz:id.size<=12):szC (chGone id):=by
 have e1:(fI id).size=1+id.size:=sz1 105 id;have e2:(fR id).size=1+id.size:=sz1 114 id;have e3:(fS id).size=1+id.size:=sz1 115 id;intro c hc;unfold chGone at hc;simp only [List.mem_cons,List.not_mem_nil,or_false] at hc;rcases hc with rfl | rfl | rfl <;> constructor <;> simp <;> omega
theorem commit_rs {T S k n cp:Nat} {w0 w:World} {D:List F} {s:St} {A:Option Addr} {l:List Ch} (h:Rs T S k w0 D s) (hb:Below w0.heap.size w0 w) (hL:ChsP w 0 w0.heap.size w.heap.size A n l) (h6:k+n<=890) (hn:n<=1000) (hz:szC l) (hf:SfD.fitE s l=0) :
 Calls Tryz.prog 15 #[ptr S,.slice A n cp] w fun e w'=>e = .returned (.int .i64 0)/\Rs T S (k+n+2) w' (dall D l) (comS s l)/\Fq T T w0.heap.size w.heap.size w w':=by
 obtain⟨h1,h2,h3,h4⟩:=com_fit h.cl h.fk h.fu hf;refine (commit_any (cp:=cp) (h.sx.win hb) h6 (chs_base hL) hn hz).mono ?_;rintro e w' ⟨rfl,g1,g2⟩;rw [h1];exact⟨rfl,⟨g1.shut,h2,h3,h4⟩,g2⟩
def FullOut (k:Nat) (b:Box) (w:World) (e:Ending) (w':World):Prop :=
 ∃ T S s,e = .returned (.tuple #[ptr T,ptr S])/\w.heap.size<=T/\Rs T S 6 w' (dall [] (chPut b.id (rawI k b) (bytesR (re (fmI k) b)))) s/\Below w.heap.size w w'
theorem full_ok {k:Nat} (hk:k=1\/k=2\/k=3) {w:World} {B wn wcp mn mcp:Nat} {WA MA:Option Addr} {b:Box} (ht:BxO.Tab w) (hx:StrsAt w B WA wn b.words) (hm:MsgsAt w B MA mn b.msgs) (hB:B<=w.heap.size) (hwc:wn<=wcp) (hmc:mn<=mcp) (h0:mbE b=0) :
 Calls Tryz.prog 11 #[.int .i64 (k:Nat),.agg #[.string b.id,.int .i64 b.valid,.int .i64 b.next,.int .i64 b.high,.slice WA wn wcp,.slice MA mn mcp]] w (FullOut k b w):=by
 have A0:=H_ (After.start w (.cells #[.string b.id,.int .i64 b.valid,.int .i64 b.next,.int .i64 b.high,.slice WA wn wcp,.slice MA mn mcp] 25));have hid:=(head_parts ((mb_iff b).1 h0).1).2.1;have KP:=H_ (fun (wr:World) (hb:Below w.heap.size w wr)=>HoP.put_ok hk (wcp:=wcp) (mcp:=mcp) (ht.below hb lr_) (StrsAt.below hx hb hB) (MsgsAt.below hm hb hB) (Nat.le_trans hB hb.size) hwc hmc h0);have hx1:=raw_51 (k:=k) h0;have hy1:=HoD.gr_len (HoD.re_gr (f:=fmI k) h0) (by have:=ImD.re_len (ImL.fmI_is k) h0; omega);have HZ:=H_ (szC3 hid hx1 hy1);have HF:=H_ (fun s (hC:Cl [] 1000000 s)=>fit_put (ids:=[b.id]) hC List.Pairwise.nil (few_nil _) (by simp) (by simp) hid hx1 hy1);unfold FullOut;obtain⟨L,hL⟩ : ∃ L,L=chPut b.id (rawI k b) (bytesR (re (fmI k) b)):=⟨_,rfl⟩;have HL3:=H_ (show L.length=3 by rw [hL]; rfl);rw [<- hL] at KP HZ HF ⊢;clear hx hm ht h0 hk hx1 hy1 hid hL;unfold ptr at *;go_enter Tryz.func11,Tryz.ntmps11;go_upto_region 1 with fail
 generalize (World.alloc w _)=w1 at A0 ⊢;have hs1:=A0.out.size;obtain⟨T,hT⟩ : ∃ T,T=w1.heap.size:=⟨_,rfl⟩;have KN:=H_ (newX w1 w1.heap.size 1000000 lr_);obtain⟨s0,hs0⟩ : ∃ s0,s0=newS 1000000:=⟨_,rfl⟩;have C0:=H_ (show Cl [] 1000000 s0/\s0.fuse=none by rw [hs0]; exact new_cl 1000000);rw [<- hs0,<- hT] at KN;have HT:=H_ hT;unfold ptr at KN;clear hs0 hT;go_upto_region 2 with (go_at_call 26; go_loud (refine KN.out.mono ?_; rintro e w2 ⟨rfl,h1,h2⟩; have R2:=H_ h1; have B2:=H_ h2; clear h1 h2))
 have o1:=op_cl C0.out.1 Fk.nil;have KO:=H_ (open_any (J:=0) R2.out (by omega) (op_few_cl C0.out.1 Fk.nil));rw [o1.1,o1.2.1] at KO;unfold SfP.OpP ptr at KO;clear o1 KN;go_upto_region 3 with (go_at_call 27; go_loud (
  refine KO.out.mono ?_;rintro e w3 ⟨v,rfl,h1,h2,_,h4⟩;obtain⟨S,rfl,h5,_⟩:=h4 rfl;have S3:=H_ (show Rs T S 1 w3 [] s0 from ⟨⟨h1,h5⟩,C0.out.1,Fk.nil,C0.out.2⟩);have B3:=H_ (show Below w1.heap.size w1 w3 from by rw [<- HT.out]; exact B2.out.trans (h2.to R2.out.bs));have A3:=H_ (A0.out.go B3.out);clear h1 h2 h4 h5))
 clear KO B2 R2;obtain⟨c0,c1,c2,c3,c4,c5⟩:=A3.out.box;have KP3:=H_ (KP.out _ A3.out.below);unfold ChOutE at KP3;go_upto_region 4 with (go_at_call 18; go_loud (
  refine KP3.out.mono ?_;rintro e w4 ⟨A,n,c,rfl,hch,hb⟩;have L4:=H_ hch;have B4:=H_ hb;have A4:=H_ (A3.out.go hb);clear hch hb c0 c1 c2 c3 c4 c5))
 have hn:n=3:=by rw [<- L4.out.1]; exact HL3.out
 subst hn;clear KP KP3;have KC:=H_ (commit_rs (cp:=c) S3.out B4.out L4.out (by omega) (by omega) HZ.out (HF.out _ S3.out.cl));unfold ptr at KC;go_wp2_with (go_at_call 15; go_loud (
  refine KC.out.mono ?_;rintro e w5 ⟨rfl,h1,h2⟩;have S5:=H_ h1;have B5:=H_ (A4.out.below.trans ((h2.to (by have:=S3.out.lt; have:=B4.out.size; omega)).mono (by have:=A0.out.below.size; rw [HT.out]; omega)));clear h1 h2))
 refine bodyPost_ret (v:=.tuple #[.pointer (some ⟨T,0,none⟩),.pointer (some ⟨S,0,none⟩)]) (by simp [results,Tryz.results11,go_sem]) rfl ?_;exact⟨T,S,_,rfl,by have:=A0.out.below.size; rw [HT.out]; omega,S5.out,B5.out⟩
end Go.Proofs.YtoljpfapphoflaaGreatDoor.HoU

set_option maxHeartbeats 4000000
set_option maxRecDepth 100000
namespace Go.Proofs.YtoljpfapphoflaaGreatDoor.HoW
open Go.RowKit BxD BxKit RwKit HoF HoA HoK HoU
open RkM (ptr)
open RkP (below_alloc)
open ImD (re fm1)
open ImL (rawI fmI)
def bx0:Box:=⟨⟨#[98,49]⟩,5,1,9,[],[]⟩
theorem bx_may:mbE bx0=0:=by decide +kernel
theorem bx_rows:(re (fmI 1) bx0).length=1:=by decide +kernel
theorem awake {w:World} (ht:BxO.Tab w):Calls Tryz.prog 10 #[] w fun e w'=>e = .returned (.bool true)/\Below w.heap.size w w':=by
 have KF:=H_ (show Calls Tryz.prog 11 #[.int .i64 1,.agg #[.string ⟨#[98,49]⟩,.int .i64 5,.int .i64 1,.int .i64 9,.slice none 0 0,.slice none 0 0]] w (FullOut 1 bx0 w) from full_ok (k:=1) (.inl rfl) (b:=bx0) ht (RowAt.nil _ _ _ _ _) (RowAt.nil _ _ _ _ _) lr_ lr_ lr_ bx_may);have HK:=H_ (kept_put (D:=[]) (k:=1) List.Pairwise.nil (.inl rfl) bx_may);have HT:=H_ ht;have HN:=H_ bx_rows;unfold FullOut ptr at KF;clear ht;go_enter Tryz.func10,Tryz.ntmps10;go_upto_region 2 with (go_at_call 11; go_loud (
  refine KF.out.mono ?_;rintro e w1 ⟨T,S,s,rfl,hT,h1,h2⟩;have R1:=H_ h1;have B1:=H_ h2;clear h1 h2 hT))
 have KL:=H_ (show Calls Tryz.prog 16 #[.pointer (some ⟨S,0,none⟩),.string ⟨#[98,49]⟩] w1 (KeptOut bx0 1 (re (fmI 1) bx0) w1) from HoL.load_ok R1.out.sx (by omega) (HT.out.below B1.out lr_) R1.out.cl R1.out.fk HK.out);unfold KeptOut at KL;go_upto_region 3 with (go_at_call 16; go_loud (
  refine KL.out.mono ?_;rintro e w2 ⟨WA,wn,wc,MA,mn,mc,A,n,c,rfl,_,_,_,_,_,hr,hb⟩;have hn:n=1:=by rw [<- hr.len]; exact HN.out
  have B2:=H_ (B1.out.trans (hb.mono B1.out.size));clear hr hb))
 subst hn;have hN:=heap_alloc_new w2 (.cells #[.string bx0.id,.int .i64 bx0.valid,.int .i64 bx0.next,.int .i64 bx0.high,.slice WA wn wc,.slice MA mn mc,.int .i64 1,.slice A 1 c] 48);have B3:=H_ (B2.out.trans ((below_alloc w2 (.cells #[.string bx0.id,.int .i64 bx0.valid,.int .i64 bx0.next,.int .i64 bx0.high,.slice WA wn wc,.slice MA mn mc,.int .i64 1,.slice A 1 c] 48)).mono B2.out.size));have KG:=H_ (fun (wr:World)=>gone_any ⟨#[98,49]⟩ wr (by decide));unfold ChOut at KG;obtain⟨X,hX⟩ : ∃ X,X=w2.heap.size:=⟨_,rfl⟩;rw [<- hX] at hN ⊢;clear hX KF KL B2;generalize (World.alloc w2 _)=w3 at hN B3 ⊢;have cX:=fun o=>cell_of_row w3 X o _ _ _ hN;have q3:=(cX 3).trans (show _=some (Value.int .i64 9) from rfl);have q6:=(cX 6).trans (show _=some (Value.int .i64 1) from rfl);have q7:=(cX 7).trans (show _=some (Value.slice A 1 c) from rfl);clear cX hN;go_wp2_with (go_at_call 19; go_loud (
  refine (KG.out _).mono ?_;rintro e w4 ⟨A4,n4,c4,rfl,hch,hb⟩;have hn4:n4=3:=by rw [<- hch.1]; rfl
  have B4:=H_ (B3.out.trans (hb.mono B3.out.size));clear hch hb;subst hn4))
 go_ret;exact⟨rfl,B4.out⟩
end Go.Proofs.YtoljpfapphoflaaGreatDoor.HoW
