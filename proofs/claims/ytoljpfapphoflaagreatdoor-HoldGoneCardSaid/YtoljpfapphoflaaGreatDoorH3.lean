/-
  HoP + HoL
-/
import Derived.Test.YtoljpfapphoflaaGreatDoorZ6
set_option linter.unusedVariables false
set_option linter.unusedSimpArgs false
set_option maxHeartbeats 4000000
set_option maxRecDepth 100000
namespace Go.Proofs.YtoljpfapphoflaaGreatDoor.HoP
open Go.RowKit BxD BxKit RwD RwKit ImD ImA ImL HoD HoF HoA
open SfC (byP ChsP)
open RkP (below_alloc)
open PkKit (BytesAt)
open RpH (small)
theorem gr_small {l:List Row} (h : ∀ r∈l,Gr r) : ∀ r∈l,small r:=fun r hr=>by
 obtain⟨h1,h2,h3,h4⟩:=(h r hr).keys;exact⟨by omega,by omega,by omega,by omega⟩
theorem put_ok {k:Nat} (hk:k=1\/k=2\/k=3) {w:World} {B wn wcp mn mcp:Nat} {WA MA:Option Addr} {b:Box} (ht:BxO.Tab w) (hx:StrsAt w B WA wn b.words) (hm:MsgsAt w B MA mn b.msgs) (hB:B<=w.heap.size) (hwc:wn<=wcp) (hmc:mn<=mcp) (h0:mbE b=0) :
 Calls Tryz.prog 18 #[.int .i64 (k:Nat),.agg #[.string b.id,.int .i64 b.valid,.int .i64 b.next,.int .i64 b.high,.slice WA wn wcp,.slice MA mn mcp]] w (ChOutE (chPut b.id (rawI k b) (RpD.bytesR (re (fmI k) b))) 0 w):=by
 have A0:=H_ (After.start w (.cells #[.string b.id,.int .i64 b.valid,.int .i64 b.next,.int .i64 b.high,.slice WA wn wcp,.slice MA mn mcp] 25));have hid:b.id.size<=200:=by have:=(head_parts ((mb_iff b).1 h0).1).2.1; omega
 have KM:=H_ (fun (wr:World) (hb:Below w.heap.size w wr)=>make_any hk (wcp:=wcp) (mcp:=mcp) (ht.below hb lr_) (StrsAt.below hx hb hB) (MsgsAt.below hm hb hB) (Nat.le_trans hB hb.size) hwc hmc h0);have HG:=H_ (gr_small (re_gr (f:=fmI k) h0));obtain⟨R1,hR1⟩ : ∃ R1,R1=rawI k b:=⟨_,rfl⟩;obtain⟨R2,hR2⟩ : ∃ R2,R2=re (fmI k) b:=⟨_,rfl⟩;rw [<- hR1,<- hR2] at KM ⊢;rw [<- hR2] at HG;clear hx hm ht hR1 hR2 h0 hk;go_enter Tryz.func18,Tryz.ntmps18;go_upto_region 1 with fail
 generalize (World.alloc w _)=w1 at A0 ⊢;obtain⟨c0,c1,c2,c3,c4,c5⟩:=A0.out.box;go_upto_region 4 with (go_at_call 47; go_loud (
  refine (KM.out _ A0.out.below).mono ?_;rintro e w2 ⟨A,n,c,A2,n2,c2',rfl,hnc,hnc2,_,hz,hr,hb,hf⟩;have A2':=H_ (A0.out.go hb);have Z2:=H_ hz;have R2':=H_ hr;have F2:=H_ (show ∀ ad:Addr,A=some ad->w.heap.size<=ad.block from fun ad e=>Nat.le_trans A0.out.below.size (hf ad e));clear hz hr hb hf c0 c1 c2 c3 c4 c5))
 clear KM;obtain⟨c0,_⟩:=A2'.out.box;have KB:=H_ (fun (wr:World) (hb:Below w2.heap.size w2 wr)=>RpY.bytes_any (cp:=c2') (RowsAt.below R2'.out hb lr_) hb.size HG.out);have hbd:=(Below.refl w2.heap.size w2).drew;have hns : ¬ 9223372036854775807<1+b.id.size:=by omega
 go_region_held (fun wr=>wr.cell? ⟨w.heap.size,0,none⟩ = some (.string b.id)) (with_reducible first | exact c0 | exact d0 | go_keep) (
  (go_at_call 35; go_loud (
   refine (KB.out _ hbd).mono ?_;rintro e w3 ⟨A3,n3,c3,rfl,hnc3,_,hz,hb,hf⟩;have B3:=H_ (hbd.trans hb);have A3':=H_ (A2'.out.go B3.out);have Z3:=H_ hz;have F3:=H_ (show ∀ ad:Addr,A3=some ad->w.heap.size<=ad.block from fun ad e=>Nat.le_trans A2'.out.below.size (hf ad e));obtain⟨d0,_⟩:=A3'.out.box;clear hz hb hf;dsimp only)))
 rename_i hHeld;clear hHeld c0 d0;have B4:=H_ (below_alloc w3 (.cells #[.string (⟨#[105]⟩++b.id),.bool false,.slice A n c,.string (⟨#[114]⟩++b.id),.bool false,.slice A3 n3 c3,.string (⟨#[115]⟩++b.id),.bool true,.slice none 0 0] 81));have N4:=H_ (heap_alloc_new w3 (.cells #[.string (⟨#[105]⟩++b.id),.bool false,.slice A n c,.string (⟨#[114]⟩++b.id),.bool false,.slice A3 n3 c3,.string (⟨#[115]⟩++b.id),.bool true,.slice none 0 0] 81));have hs4:(w3.alloc (.cells #[.string (⟨#[105]⟩++b.id),.bool false,.slice A n c,.string (⟨#[114]⟩++b.id),.bool false,.slice A3 n3 c3,.string (⟨#[115]⟩++b.id),.bool true,.slice none 0 0] 81)).heap.size=w3.heap.size+1:=by simp
 obtain⟨G,hG⟩ : ∃ G,G=w3.heap.size:=⟨_,rfl⟩;rw [<- hG] at N4 hs4 ⊢;generalize (World.alloc w3 _)=W at B4 N4 hs4 ⊢;go_wp2_with fail
 go_ret2;have h1:=A3'.out.below.size;have h2:=B3.out.size;refine⟨_,3,3,rfl,chs3 N4.out ⟨by omega,by omega⟩ hnc hnc3 lr_ (byP_new (Z2.out.below (B3.out.trans (B4.out.mono h2)) lr_) (by omega) F2.out) (byP_new (Z3.out.below B4.out lr_) (by omega) F3.out) (byP_nil _ _ _),A3'.out.below.trans (B4.out.mono h1)⟩
end Go.Proofs.YtoljpfapphoflaaGreatDoor.HoP

set_option maxHeartbeats 8000000
set_option maxRecDepth 100000
namespace Go.Proofs.YtoljpfapphoflaaGreatDoor.HoL
open Go.RowKit BxD BxKit RwD RwKit ImD ImA ImL HoD HoF HoA
open RkD (F St rdF)
open SfD (nR)
open RkN (RdPost)
open RkM (ptr)
open RkP (below_alloc)
open SfU (Cl)
open SfV (Fk)
open SfO (Sx)
open SfT (lkF)
open PkKit (BytesAt)
open RkK (Kp.below)
def zkept:Array Value:=#[.string ⟨#[]⟩,.int .i64 0,.int .i64 0,.int .i64 0,.slice none 0 0,.slice none 0 0,.int .i64 0,.slice none 0 0]
structure Pk (w wr:World):Prop where
 bel:Below w.heap.size w wr
 res:wr.heap[w.heap.size]? = some (.cells zkept 48 (0,0))
theorem Pk.lt {w wr:World} (h:Pk w wr):w.heap.size<wr.heap.size:=(gs_ h.res).1
theorem Pk.go {w wr w2:World} (h:Pk w wr) (hb:Below wr.heap.size wr w2):Pk w w2:=⟨h.bel.trans (hb.mono h.bel.size),(hb.block _ h.lt).trans h.res⟩
theorem ret8 {wr:World} {P:Nat} (h:wr.heap[P]? = some (.cells zkept 48 (0,0))) (c0 c1 c2 c3 c4 c5 c6 c7:Value) :
 ∃ W,W=(((((((wr.setCell ⟨P,0,none⟩ c0).setCell ⟨P,1,none⟩ c1).setCell ⟨P,2,none⟩ c2).setCell ⟨P,3,none⟩ c3).setCell ⟨P,4,none⟩ c4).setCell ⟨P,5,none⟩ c5).setCell ⟨P,6,none⟩ c6).setCell ⟨P,7,none⟩ c7 /\
  W.cell? ⟨P,0,none⟩ = some c0/\W.cell? ⟨P,1,none⟩ = some c1/\W.cell? ⟨P,2,none⟩ = some c2/\W.cell? ⟨P,3,none⟩ = some c3/\W.cell? ⟨P,4,none⟩ = some c4/\W.cell? ⟨P,5,none⟩ = some c5/\W.cell? ⟨P,6,none⟩ = some c6/\W.cell? ⟨P,7,none⟩ = some c7/\(∀ B,B<=P->Below B wr W)/\(∀ k,k≠P->W.heap[k]? = wr.heap[k]?)/\W.heap.size=wr.heap.size:=by
 refine⟨_,rfl, ?_⟩;have hb:((((((((wr.setCell ⟨P,0,none⟩ c0).setCell ⟨P,1,none⟩ c1).setCell ⟨P,2,none⟩ c2).setCell ⟨P,3,none⟩ c3).setCell ⟨P,4,none⟩ c4).setCell ⟨P,5,none⟩ c5).setCell ⟨P,6,none⟩ c6).setCell ⟨P,7,none⟩ c7).heap[P]? = some (.cells #[c0,c1,c2,c3,c4,c5,c6,c7] 48 (0,0)):=by
  simp [World.setCell,Array.getElem?_modify,h,zkept]
 have c:=fun o=>cell_of_row _ P o _ _ _ hb;exact⟨(c 0).trans rfl,(c 1).trans rfl,(c 2).trans rfl,(c 3).trans rfl,(c 4).trans rfl,(c 5).trans rfl,(c 6).trans rfl,(c 7).trans rfl,fun B hB =>
  Below.setCell (Below.setCell (Below.setCell (Below.setCell (Below.setCell (Below.setCell (Below.setCell (Below.setCell (Below.refl _ _) (p:=⟨P,0,none⟩) hB c0) (p:=⟨P,1,none⟩) hB c1) (p:=⟨P,2,none⟩) hB c2) (p:=⟨P,3,none⟩) hB c3) (p:=⟨P,4,none⟩) hB c4) (p:=⟨P,5,none⟩) hB c5) (p:=⟨P,6,none⟩) hB c6) (p:=⟨P,7,none⟩) hB c7,
  fun k hk=>by simp [World.setCell,Array.getElem?_modify,Ne.symm hk],by simp [World.setCell]⟩
theorem zcells8 {wr:World} {P:Nat} (h:wr.heap[P]? = some (.cells zkept 48 (0,0))) :
 wr.cell? ⟨P,0,none⟩ = some (.string ⟨#[]⟩)/\wr.cell? ⟨P,1,none⟩ = some (.int .i64 0)/\wr.cell? ⟨P,2,none⟩ = some (.int .i64 0)/\wr.cell? ⟨P,3,none⟩ = some (.int .i64 0)/\wr.cell? ⟨P,4,none⟩ = some (.slice none 0 0)/\wr.cell? ⟨P,5,none⟩ = some (.slice none 0 0)/\wr.cell? ⟨P,6,none⟩ = some (.int .i64 0)/\wr.cell? ⟨P,7,none⟩ = some (.slice none 0 0)/\∀ i,wr.frozen? ⟨P,i,none⟩ = false:=by
 have c:=fun o=>cell_of_row _ P o _ _ _ h;exact⟨(c 0).trans rfl,(c 1).trans rfl,(c 2).trans rfl,(c 3).trans rfl,(c 4).trans rfl,(c 5).trans rfl,(c 6).trans rfl,(c 7).trans rfl,fun i=>by simp [World.frozen?,h]⟩
theorem keep8 {wr:World} {P X:Nat} {t:TypeId} {a0 a1 a2 a3 a4 a5:Value} (hne:X≠P) (h:wr.heap[X]? = some (.cells #[a0,a1,a2,a3,a4,a5] t (0,0))) (c0 c1 c2 c3 c4 c5 c6 c7:Value) :
 ((((((((wr.setCell ⟨P,0,none⟩ c0).setCell ⟨P,1,none⟩ c1).setCell ⟨P,2,none⟩ c2).setCell ⟨P,3,none⟩ c3).setCell ⟨P,4,none⟩ c4).setCell ⟨P,5,none⟩ c5).setCell ⟨P,6,none⟩ c6).setCell ⟨P,7,none⟩ c7).cell? ⟨X,0,none⟩ = some a0 /\
 ((((((((wr.setCell ⟨P,0,none⟩ c0).setCell ⟨P,1,none⟩ c1).setCell ⟨P,2,none⟩ c2).setCell ⟨P,3,none⟩ c3).setCell ⟨P,4,none⟩ c4).setCell ⟨P,5,none⟩ c5).setCell ⟨P,6,none⟩ c6).setCell ⟨P,7,none⟩ c7).cell? ⟨X,1,none⟩ = some a1 /\
 ((((((((wr.setCell ⟨P,0,none⟩ c0).setCell ⟨P,1,none⟩ c1).setCell ⟨P,2,none⟩ c2).setCell ⟨P,3,none⟩ c3).setCell ⟨P,4,none⟩ c4).setCell ⟨P,5,none⟩ c5).setCell ⟨P,6,none⟩ c6).setCell ⟨P,7,none⟩ c7).cell? ⟨X,2,none⟩ = some a2 /\
 ((((((((wr.setCell ⟨P,0,none⟩ c0).setCell ⟨P,1,none⟩ c1).setCell ⟨P,2,none⟩ c2).setCell ⟨P,3,none⟩ c3).setCell ⟨P,4,none⟩ c4).setCell ⟨P,5,none⟩ c5).setCell ⟨P,6,none⟩ c6).setCell ⟨P,7,none⟩ c7).cell? ⟨X,3,none⟩ = some a3 /\
 ((((((((wr.setCell ⟨P,0,none⟩ c0).setCell ⟨P,1,none⟩ c1).setCell ⟨P,2,none⟩ c2).setCell ⟨P,3,none⟩ c3).setCell ⟨P,4,none⟩ c4).setCell ⟨P,5,none⟩ c5).setCell ⟨P,6,none⟩ c6).setCell ⟨P,7,none⟩ c7).cell? ⟨X,4,none⟩ = some a4 /\
 ((((((((wr.setCell ⟨P,0,none⟩ c0).setCell ⟨P,1,none⟩ c1).setCell ⟨P,2,none⟩ c2).setCell ⟨P,3,none⟩ c3).setCell ⟨P,4,none⟩ c4).setCell ⟨P,5,none⟩ c5).setCell ⟨P,6,none⟩ c6).setCell ⟨P,7,none⟩ c7).cell? ⟨X,5,none⟩ = some a5:=by
 have hb:((((((((wr.setCell ⟨P,0,none⟩ c0).setCell ⟨P,1,none⟩ c1).setCell ⟨P,2,none⟩ c2).setCell ⟨P,3,none⟩ c3).setCell ⟨P,4,none⟩ c4).setCell ⟨P,5,none⟩ c5).setCell ⟨P,6,none⟩ c6).setCell ⟨P,7,none⟩ c7).heap[X]? = some (.cells #[a0,a1,a2,a3,a4,a5] t (0,0)):=by
  simp [World.setCell,Array.getElem?_modify,Ne.symm hne,h]
 obtain⟨q0,q1,q2,q3,q4,q5,_⟩:=RwKit.six_at hb;exact⟨q0,q1,q2,q3,q4,q5⟩
theorem put6w {wr:World} {P:Nat} {a0 a1 a2 a3 a4 a5:Value} (h:wr.heap[P]? = some (.cells #[a0,a1,a2,a3,a4,a5] 25 (0,0))) (c0 c1 c2 c3 c4 c5:Value) :
 ∃ W,W=(((((wr.setCell ⟨P,0,none⟩ c0).setCell ⟨P,1,none⟩ c1).setCell ⟨P,2,none⟩ c2).setCell ⟨P,3,none⟩ c3).setCell ⟨P,4,none⟩ c4).setCell ⟨P,5,none⟩ c5 /\
  W.heap[P]? = some (.cells #[c0,c1,c2,c3,c4,c5] 25 (0,0))/\(∀ B,B<=P->Below B wr W)/\(∀ k,k≠P->W.heap[k]? = wr.heap[k]?)/\W.heap.size=wr.heap.size:=by
 refine⟨_,rfl, ?_,fun B hB=>?_,fun k hk=>?_, ?_⟩
 · simp [World.setCell,Array.getElem?_modify,h]
 · exact Below.setCell (Below.setCell (Below.setCell (Below.setCell (Below.setCell (Below.setCell (Below.refl _ _) (p:=⟨P,0,none⟩) hB c0) (p:=⟨P,1,none⟩) hB c1) (p:=⟨P,2,none⟩) hB c2) (p:=⟨P,3,none⟩) hB c3) (p:=⟨P,4,none⟩) hB c4) (p:=⟨P,5,none⟩) hB c5
 · simp [World.setCell,Array.getElem?_modify,Ne.symm hk]
 · simp [World.setCell]
theorem read_of {D:List F} {s:St} (hC:Cl D 1000000 s) (hK:Fk D) {n:ByteArray} (hn:n≠nR):(if n=nR then none else rdF s n)=lkF D n:=by
 rw [if_neg hn,SfT.rd_look (by rw [hC.files]; exact hK.srt),hC.down,hC.files]; rfl
def noneV (E:Int):Value:=.tuple #[.agg #[.string ⟨#[]⟩,.int .i64 0,.int .i64 0,.int .i64 0,.slice none 0 0,.slice none 0 0,.int .i64 0,.slice none 0 0],.int .i64 E]
section
variable {base T S lo hi k : Nat} {w : World} {s : St} {D : List F} {id : ByteArray}
theorem load_none (h:Sx base T S lo hi k w s) (h6:k<=900) (hC:Cl D 1000000 s) (hK:Fk D) (hid:atB id=true) (hi2:id.size<=12) (hn:lkF D (fI id)=none) :
 Calls Tryz.prog 16 #[ptr S,.string id] w fun e w'=>e = .returned (noneV 6)/\Below w.heap.size w w':=by
 have P0:=H_ (show Pk w (w.alloc (.cells zkept 48)) from ⟨(Below.refl w.heap.size w).alloc lr_ _,heap_alloc_new w _⟩);have KI:=H_ (fun wr=>mayID_any id wr (by omega));rw [show (atB id&&decide (id.size<=12))=true by rw [hid,decide_eq_true hi2]; rfl] at KI;have hr:=read_of hC hK (n:=fI id) (no_redo 105 id (by decide));have KR:=H_ (fun (wr:World) (hb:Below w.heap.size w wr)=>SfQ.read_s (h.go hb) (by omega) (fI id));rw [hr,hn] at KR;have hib:id.size<=200:=by omega
 unfold fI RdPost at KR;unfold zkept at P0;unfold ptr at *;clear h hC hK hid hr hn;go_enter Tryz.func16,Tryz.ntmps16;go_upto_region 1 with fail
 generalize (World.alloc w _)=w1 at P0 ⊢;go_upto_region 3 with (go_at_call 40; go_loud (refine (KI.out _).mono ?_; rintro e w2 ⟨rfl,rfl⟩))
 go_upto_region 4 with (go_at_call 41; go_loud (
  refine (KR.out _ P0.out.bel).mono ?_;rintro e w2 ⟨A,m,c,rfl,_,_,hb⟩;have P2:=H_ (P0.out.go hb);clear hb))
 obtain⟨z0,z1,z2,z3,z4,z5,z6,z7,zf⟩:=zcells8 P2.out.res;have f0:=zf 0;have f1:=zf 1;have f2:=zf 2;have f3:=zf 3;have f4:=zf 4;have f5:=zf 5;have f6:=zf 6;have f7:=zf 7;clear zf KR KI P0;go_wp2_with fail
 obtain⟨W,hW,p0,p1,p2,p3,p4,p5,p6,p7,hWb,_,_⟩:=ret8 P2.out.res (.string ⟨#[]⟩) (.int .i64 0) (.int .i64 0) (.int .i64 0) (.slice none 0 0) (.slice none 0 0) (.int .i64 0) (.slice none 0 0);rw [<- hW];refine bodyPost_ret (v:=noneV 6) (by simp [results,Tryz.results16,go_sem,noneV,p0,p1,p2,p3,p4,p5,p6,p7]) rfl ?_;exact⟨rfl,P2.out.bel.trans (hWb _ lr_)⟩
theorem load_ok (h:Sx base T S lo hi k w s) (h6:k<=900) (ht:BxO.Tab w) (hC:Cl D 1000000 s) (hK:Fk D) {kf:Nat} {b0 b:Box} {l:List Row} (hp:Kept D id kf b0 l b) :
 Calls Tryz.prog 16 #[ptr S,.string id] w (KeptOut b kf l w):=by
 have P0:=H_ (show Pk w (w.alloc (.cells zkept 48)) from ⟨(Below.refl w.heap.size w).alloc lr_ _,heap_alloc_new w _⟩);obtain⟨hat,hi2,_⟩:=head_parts ((mb_iff b0).1 hp.may).1;rw [hp.id0] at hat hi2;have KI:=H_ (fun wr=>mayID_any id wr (by omega));rw [show (atB id&&decide (id.size<=12))=true by rw [hat,decide_eq_true hi2]; rfl] at KI;have hr:=read_of hC hK (n:=fI id) (no_redo 105 id (by decide));have hr2:=read_of hC hK (n:=fR id) (no_redo 114 id (by decide));have KR:=H_ (fun (wr:World) (hb:Below w.heap.size w wr)=>SfQ.read_s (h.go hb) (by omega) (fI id));have KQ:=H_ (fun (wr:World) (hb:Below w.heap.size w wr)=>SfQ.read_s (h.go hb) (by omega) (fR id));rw [hr,hp.img] at KR;rw [hr2,hp.row] at KQ;have hib:id.size<=200:=by omega
 have hl1:(rawI kf b0).length<=51000:=raw_51 hp.may;have hl2:(RpD.bytesR l).length<=87200:=gr_len hp.gr hp.len;have hpe:=raw_parse hp.k3 hp.may;rw [hp.id0] at hpe;have HPE:=H_ (And.intro (congrArg Prod.fst hpe) (congrArg Prod.snd hpe));have hpr:=(gr_all hp.gr hp.len).1;have HPR:=H_ (And.intro (congrArg Prod.fst hpr) (congrArg Prod.snd hpr));have hmp:=pj_may (fmI_is kf) hp.may;have hal:allP (pj (fmI kf) b0) l=(b,0):=by unfold allP; rw [if_pos hmp]; exact hp.all
 have HAL:=H_ (And.intro (congrArg Prod.fst hal) (congrArg Prod.snd hal));have HKY:=H_ (show ∀ r∈l,r.msg.keys.length<=17592186044416 from fun r hr=>by have:=(hp.gr r hr).keys.1; omega);have HV:=H_ (raw_ver hp.k3 b0);have HT:=H_ ht;obtain⟨q,hq⟩ : ∃ q,q=pj (fmI kf) b0:=⟨_,rfl⟩;rw [<- hq] at HPE HAL;have hqi:q.id=id:=by rw [hq]; exact hp.id0
 obtain⟨R1,hR1⟩ : ∃ R1,R1=rawI kf b0:=⟨_,rfl⟩;obtain⟨R2,hR2⟩ : ∃ R2,R2=RpD.bytesR l:=⟨_,rfl⟩;rw [<- hR1] at KR HPE HV hl1;rw [<- hR2] at KQ HPR hl2;have HL1:=H_ hl1;have HL2:=H_ hl2;have HQI:=H_ hqi;unfold fI RdPost at KR;unfold fR RdPost at KQ;unfold zkept at P0;unfold ptr at *;clear h hC hK hp hat hr hr2 hpe hpr hmp hal hq hR1 hR2 ht hl1 hl2 hqi;go_enter Tryz.func16,Tryz.ntmps16;go_upto_region 1 with fail
 generalize (World.alloc w _)=w1 at P0 ⊢;go_upto_region 3 with (go_at_call 40; go_loud (refine (KI.out _).mono ?_; rintro e w2 ⟨rfl,rfl⟩))
 go_upto_region 4 with (go_at_call 41; go_loud (
  refine (KR.out _ P0.out.bel).mono ?_;rintro e w2 ⟨A1,m1,c1,rfl,hy,hc1,hb⟩;have P2:=H_ (P0.out.go hb);have Y2:=H_ (show RkK.ByT w2 A1 m1 R1 from hy);clear hb hy))
 have hm1:m1<=51000:=by rw [<- Y2.out.1]; exact HL1.out
 have KP:=H_ (ImP.parse_any (cp:=c1) (id:=id) (HT.out.below P2.out.bel lr_) (RkK.ByT.at_ Y2.out) lr_ hc1 (by omega) hib);rw [HPE.out.1,HPE.out.2] at KP;clear KR KI P0;go_upto_region 7 with (go_at_call 42; go_loud (
  refine KP.out.mono ?_;rintro e w3 ⟨WA,wn,wc,MA,mn,mc,rfl,hwc,hmc,hnw,hb⟩;have P3:=H_ ((P2.out.go hb).go (below_alloc w3 (.cells #[.string q.id,.int .i64 q.valid,.int .i64 q.next,.int .i64 q.high,.slice WA wn wc,.slice MA mn mc] 25)));have Y3:=H_ (Y2.out.kp (Kp.below (hb.trans ((below_alloc w3 (.cells #[.string q.id,.int .i64 q.valid,.int .i64 q.next,.int .i64 q.high,.slice WA wn wc,.slice MA mn mc] 25)).mono hb.size)) lr_));have X3:=H_ (heap_alloc_new w3 (.cells #[.string q.id,.int .i64 q.valid,.int .i64 q.next,.int .i64 q.high,.slice WA wn wc,.slice MA mn mc] 25));have N3:=H_ (hnw (w3.alloc (.cells #[.string q.id,.int .i64 q.valid,.int .i64 q.next,.int .i64 q.high,.slice WA wn wc,.slice MA mn mc] 25)) (fun k _ h2=>heap_alloc_old w3 _ h2) (below_alloc w3 _).size);have S3:=H_ (show w.heap.size<w3.heap.size from Nat.lt_of_lt_of_le P2.out.lt hb.size);clear hb hnw))
 clear P2 Y2 KP;obtain⟨X,hX⟩ : ∃ X,X=w3.heap.size:=⟨_,rfl⟩;rw [<- hX] at X3 S3 ⊢;clear hX;generalize (World.alloc w3 _)=w4 at P3 Y3 X3 N3 ⊢;go_upto_region 10 with (go_at_call 41; go_loud (
  refine (KQ.out _ P3.out.bel).mono ?_;rintro e w5 ⟨A2,m2,c2,rfl,hy,hc2,hb⟩;have P5:=H_ (P3.out.go hb);have Y5:=H_ (Y3.out.kp (Kp.below hb lr_));have Z5:=H_ (show BytesAt w5 w5.heap.size A2 m2 R2 from RkK.ByT.at_ hy);have X5:=H_ ((hb.block X (gs_ X3.out).1).trans X3.out);have N5:=H_ (And.intro (StrsAt.more (StrsAt.below N3.out.1 hb lr_) hb.size) (MsgsAt.more (MsgsAt.below N3.out.2 hb lr_) hb.size));clear hb hy))
 have hm2:m2<=87200:=by rw [<- Z5.out.1]; exact HL2.out
 have KP:=H_ (RpP.parse_new (cp:=c2) Z5.out lr_ (by omega));rw [HPR.out.1,HPR.out.2] at KP;clear KQ P3 Y3 X3 N3;go_upto_region 13 with (go_at_call 43; go_loud (
  refine KP.out.mono ?_;rintro e w6 ⟨A3,n3,c3,rfl,hc3,hr,hb⟩;have P6:=H_ (P5.out.go hb);have Y6:=H_ (Y5.out.kp (Kp.below hb lr_));have X6:=H_ ((hb.block X (gs_ X5.out).1).trans X5.out);have N6:=H_ (And.intro (StrsAt.more (StrsAt.below N5.out.1 hb lr_) hb.size) (MsgsAt.more (MsgsAt.below N5.out.2 hb lr_) hb.size));have LR:=H_ hr;have S5:=H_ (show X<w5.heap.size/\w5.heap.size<=w6.heap.size from ⟨(gs_ X5.out).1,hb.size⟩);have R6:=H_ (hr w6 lr_ fun _ _ _=>rfl);clear hb hr))
 clear P5 Y5 X5 N5 KP Z5;obtain⟨q0,q1,q2,q3,q4,q5,g0,g1,g2,g3,g4,g5⟩:=RwKit.six_at X6.out;have KA:=H_ (RwW10.all_any (cp:=c3) (b:=q) N6.out.1 N6.out.2 hwc hmc lr_ R6.out hc3 HKY.out);rw [HAL.out.1,HAL.out.2] at KA;go_upto_region 14 with (go_at_call 33; go_loud (
  refine KA.out.mono ?_;rintro e w7 ⟨WB,un,uc,MB,vn,vc,rfl,huc,hvc,hlie,hb⟩;have P7:=H_ (P6.out.go hb);have Y7:=H_ (Y6.out.kp (Kp.below hb lr_));have X7:=H_ ((hb.block X (gs_ X6.out).1).trans X6.out);have L7:=H_ hlie;have E7:=H_ (fun k (hk:k<w6.heap.size)=>hb.block k hk);have S7:=H_ hb.size;clear hb hlie q0 q1 q2 q3 q4 q5 g0 g1 g2 g3 g4 g5;obtain⟨q0,q1,q2,q3,q4,q5,g0,g1,g2,g3,g4,g5⟩:=RwKit.six_at X7.out))
 clear q0 q1 q2 q3 q4 q5 g0 g1 g2 g3 g4 g5 P6 Y6 X6 N6 KA;obtain⟨W8,hW8,hX8,hB8,hO8,hs8⟩:=put6w X7.out (.string b.id) (.int .i64 b.valid) (.int .i64 b.next) (.int .i64 b.high) (.slice WB un uc) (.slice MB vn vc);rw [<- hW8];have P8:=H_ (show Pk w W8 from ⟨P7.out.bel.trans (hB8 _ (by have:=S3.out; omega)),(hO8 _ (by have:=S3.out; omega)).trans P7.out.res⟩);have X8:=H_ hX8;have Y8:=H_ (show RkK.ByT W8 A1 m1 R1 from Y7.out.ku fun k hk=>hO8 k fun e=>by
  obtain⟨cs,fr,hk⟩:=hk;rw [e,X7.out] at hk;injection hk with hk;injection hk with _ hk;exact absurd hk (by decide))
 have E8:=H_ hO8;have B8:=H_ (show w7.heap.size=W8.heap.size from hs8.symm);have C8:=H_ (show X<W8.heap.size by have:=(gs_ hX8).1; exact this);clear hW8 hX8 hB8 hO8 hs8 P7 X7 Y7;have KV:=H_ (fun (wr:World) (hb:Below W8.heap.size W8 wr)=>ImB.version_any (cp:=c1) (RkK.ByT.at_ (Y8.out.kp (Kp.below hb lr_))) lr_ hc1 (by omega));rw [HV.out] at KV;go_upto_region 16 with fail
 have hbd:=(Below.refl W8.heap.size W8).drew;have hXP:X≠w.heap.size:=by have:=S3.out; omega
 obtain⟨q0,q1,q2,q3,q4,q5,_⟩:=RwKit.six_at X8.out;go_region_held (fun wr=>wr.cell? ⟨X,0,none⟩ = some (.string b.id)/\wr.cell? ⟨X,1,none⟩ = some (.int .i64 b.valid)/\wr.cell? ⟨X,2,none⟩ = some (.int .i64 b.next)/\wr.cell? ⟨X,3,none⟩ = some (.int .i64 b.high)/\wr.cell? ⟨X,4,none⟩ = some (.slice WB un uc)/\wr.cell? ⟨X,5,none⟩ = some (.slice MB vn vc)) (with_reducible first | exact⟨q0,q1,q2,q3,q4,q5⟩ | exact⟨d0,d1,d2,d3,d4,d5⟩ | exact keep8 hXP X9.out _ _ _ _ _ _ _ _ | go_keep) (
  (go_at_call 44; go_loud (
   refine (KV.out _ hbd).mono ?_;rintro e w9 ⟨rfl,hb⟩;have B9:=H_ (hbd.trans hb);have P9:=H_ (P8.out.go B9.out);have X9:=H_ ((B9.out.block X C8.out).trans X8.out);obtain⟨d0,d1,d2,d3,d4,d5,_⟩:=RwKit.six_at X9.out;obtain⟨z0,z1,z2,z3,z4,z5,z6,z7,zf⟩:=zcells8 P9.out.res;have f0:=zf 0;have f1:=zf 1;have f2:=zf 2;have f3:=zf 3;have f4:=zf 4;have f5:=zf 5;have f6:=zf 6;have f7:=zf 7;clear hb zf;dsimp only)))
 rename_i hHeld;clear hHeld q0 q1 q2 q3 q4 q5 d0 d1 d2 d3 d4 d5 z0 z1 z2 z3 z4 z5 z6 z7 f0 f1 f2 f3 f4 f5 f6 f7 KV;obtain⟨W,hW,p0,p1,p2,p3,p4,p5,p6,p7,hWb,hWo,hWs⟩:=ret8 P9.out.res (.string b.id) (.int .i64 b.valid) (.int .i64 b.next) (.int .i64 b.high) (.slice WB un uc) (.slice MB vn vc) (.int .i64 (kf:Nat)) (.slice A3 n3 c3);rw [<- hW];go_wp2_with fail
 refine bodyPost_ret (v:=.tuple #[.agg #[.string b.id,.int .i64 b.valid,.int .i64 b.next,.int .i64 b.high,.slice WB un uc,.slice MB vn vc,.int .i64 (kf:Nat),.slice A3 n3 c3],.int .i64 0]) (by simp [results,Tryz.results16,go_sem,p0,p1,p2,p3,p4,p5,p6,p7]) rfl ?_;have h1:=S3.out;have h2:=S5.out;have h3:=S7.out;have h4:=B8.out;have h5:=B9.out.size;have hag : ∀ k,w.heap.size<k->k≠X->k<w7.heap.size->W.heap[k]? = w7.heap[k]?:=fun k g1 g2 g3=>(hWo k (by omega)).trans ((B9.out.block k (by omega)).trans (E8.out k g2));obtain⟨hws,hms⟩:=L7.out W (by omega) (fun k g1 g2=>hag k (by omega) (by omega) g2);refine⟨WB,un,uc,MB,vn,vc,A3,n3,c3,rfl,huc,hvc,hc3,StrsAt.more hws (by omega),MsgsAt.more hms (by omega),LR.out W (by omega) (fun k g1 g2=>(hag k (by omega) (by omega) (by omega)).trans (E7.out k g2)),P9.out.bel.trans (hWb _ lr_)⟩
end
end Go.Proofs.YtoljpfapphoflaaGreatDoor.HoL
