/-
  RkW + RkU + RkT + RkG
-/
import Derived.Test.YtoljpfapphoflaaGreatDoorR3
import Derived.Deep.RegionLaw
set_option linter.unusedVariables false
set_option linter.unusedSimpArgs false
set_option maxHeartbeats 4000000
set_option maxRecDepth 100000
namespace Go.Proofs.YtoljpfapphoflaaGreatDoor.RkW
open Go.RowKit BxD BxKit RkO RkC RkD RkR RkK RkP RkQ RkE RkS RkM RkN RkV
section
variable {w : World} {base T : Nat} {s : St} {SA FA LA : Option Addr} {sn sc fn fcp ln lc : Nat}
theorem write_none (h:Rk w base T s SA sn sc FA fn fcp LA ln lc) {k:Nat} (hk:Ok k s) (h6:k<=1000) {NA K:Option Addr} {nn nc kc:Nat} {nx:List F} {x:ByteArray} {b:Bool} {d:List UInt8} (hx:FilesT w NA nn nx) (hc:nn<=nc)
 (hd:ByT w K d.length d) (hkc:d.length<=kc) (hB:base<=w.heap.size) (hf:s.fuse=none) :
 Calls Tryz.prog 81 #[ptr T,.agg #[.string x,.bool b,.slice K d.length kc],.slice NA nn nc] w (RkPost w base T LA (goS s ⟨x,b,d⟩ nx) (.returned (.int .i64 (goE s)))):=by
 have hE:goE s=0:=by unfold goE; rw [hf]; rfl
 have hS:goS s ⟨x,b,d⟩ nx = { s with files:=nx,loose:=s.loose++[⟨x,b,d⟩],writes:=s.writes+1,fuse:=none }:=by unfold goS; rw [hf]; rfl
 rw [hE,hS];have hln:=h.loose.len;have hl1:ln<=1000:=by have:=hk.loose; omega
 have hw1:s.writes<=1000:=by have:=hk.writes; omega
 obtain⟨c0,c1,c2,c3,c4,c5,c6,c7,cf⟩:=h.cells (wr:=w.alloc (.cells #[.string x,.bool b,.slice K d.length kc] 81)) (Below.heap_alloc _ _ _ h.lt);rw [hf] at c6 c7;rw [show (none:Option Nat).isSome=false from rfl] at c6;have f2:=cf 2;have f7:=cf 7;have hTs:=h.lt;have hne:w.heap.size≠T:=by omega
 obtain⟨rs,hl,ho,hdl,_⟩:=h.loose;obtain⟨W1,hW1⟩ : ∃ W1,W1=((w.setCell ⟨T,2,none⟩ (.slice NA nn nc)).alloc (.cells #[.string x,.bool b,.slice K d.length kc] 81)):=⟨_,rfl⟩;have hR1:Row W1 T 102 [.int .i64 s.room,.slice SA sn sc,.slice NA nn nc,.slice LA ln lc,.int .i64 s.writes,.bool s.down,.bool false,.int .i64 (fuseV none)]:=by
  rw [hW1];have h0:=(h.head.stored 2 (.slice NA nn nc)).alloc (.cells #[.string x,.bool b,.slice K d.length kc] 81);rw [hf] at h0;exact h0
 have hF1:Fr w W1 T LA:=by rw [hW1]; exact ((Fr.of (Below.refl w.heap.size w)).set 2 (.slice NA nn nc)).alloc (.cells #[.string x,.bool b,.slice K d.length kc] 81)
 have hO1:W1.ownsRow base 81 3 (.slice LA ln lc) ln (cc rs):=by rw [hW1]; exact (ho.kept (setCell_grown _ ⟨T,2,none⟩ (.slice NA nn nc)) (.inr (own_no ho h.head))).alloc (.cells #[.string x,.bool b,.slice K d.length kc] 81)
 have hp0:Row W1 w.heap.size 81 [.string x,.bool b,.slice K d.length kc]:=by
  have h0:=heap_alloc_new ((w.setCell ⟨T,2,none⟩ (.slice NA nn nc))) (.cells #[.string x,.bool b,.slice K d.length kc] 81);rw [show ((w.setCell ⟨T,2,none⟩ (.slice NA nn nc))).heap.size=w.heap.size by simp [World.setCell]] at h0;rw [hW1];exact h0
 have HP:=H_ (fun (w6:World) (v:Value) (o:Obj) h6 g6 hv z hz=>Rk.wrote (w6:=w6) (r:=⟨x,b,⟨K,kc,d⟩⟩) (v:=v) (o:=o) (f7:=none) h hl ho hdl ⟨hd,hkc⟩ hx hc hF1 hR1 rfl hO1 h6 g6 hv z hz);have HR1:=H_ hR1;have HO1:=H_ hO1;have HB1:=H_ (show base<=W1.heap.size from Nat.le_trans hB hF1.size);have HTW:=H_ hR1.lt;have p0:W1.cell? ⟨w.heap.size,0,none⟩ = some (.string x):=hp0.cell 0;have p1:W1.cell? ⟨w.heap.size,1,none⟩ = some (.bool b):=hp0.cell 1;have p2:W1.cell? ⟨w.heap.size,2,none⟩ = some (.slice K d.length kc):=hp0.cell 2;have q3:W1.cell? ⟨T,3,none⟩ = some (.slice LA ln lc):=hR1.cell 3;have q3':(W1.alloc (.cells #[.string x,.bool b,.slice K d.length kc] 81)).cell? ⟨T,3,none⟩ = some (.slice LA ln lc):=(hR1.alloc (.cells #[.string x,.bool b,.slice K d.length kc] 81)).cell 3;clear cf hx hd hl ho hdl hR1 hF1 hO1 hp0 h hE hS hln hkc hc;unfold ptr;go_enter Tryz.func81,Tryz.ntmps81;go_upto_region 7 with fail
 rw [<- hW1];clear hW1 c0 c1 c2 c3 c4 c5 c6 c7 f2 f7 hne;have HO5:=H_ (show (W1.alloc (.cells #[.string x,.bool b,.slice K d.length kc] 81)).drew.ownsRow base 81 3 (.slice LA ln lc) ln (cc rs) from HO1.out.alloc (.cells #[.string x,.bool b,.slice K d.length kc] 81));have HS5:=H_ (show Src (W1.alloc (.cells #[.string x,.bool b,.slice K d.length kc] 81)).drew (some ⟨W1.heap.size,0,none⟩) 1 3 (cell3 ⟨x,b,⟨K,kc,d⟩⟩) from src_new W1 #[.string x,.bool b,.slice K d.length kc] 81 (m:=1) (sz:=3) rfl rfl (fun u hu=>by simp at hu; rcases hu with rfl | rfl | rfl <;> rfl));have HZ5:=H_ (show base<=(W1.alloc (.cells #[.string x,.bool b,.slice K d.length kc] 81)).drew.heap.size by have:=HB1.out; show base<=(W1.alloc (.cells #[.string x,.bool b,.slice K d.length kc] 81)).heap.size; simp; omega)
 go_region_law (go_loud (
  refine step_rows elC (c:=1) rfl (.tmp 34) (.tmp 36) rfl (by simp [Act.eval]) (by simp [Act.eval]) HO5.out HS5.out (by unfold maxLen; omega) (by omega) HZ5.out ?_;intro v6 w6 hown6 hg6 hv6;have HP6:=H_ (HP.out w6 v6 (.cells #[.string x,.bool b,.slice K d.length kc] 81) hown6 (RkO.grown_of_drew hg6) hv6);have hb6:w6.heap[T]? = (W1.alloc (.cells #[.string x,.bool b,.slice K d.length kc] 81)).heap[T]?:=hg6.block T (by have:=HTW.out; show T<(W1.alloc (.cells #[.string x,.bool b,.slice K d.length kc] 81)).heap.size; simp; omega) (fun e=>own_no (HO1.out.alloc (.cells #[.string x,.bool b,.slice K d.length kc] 81)) (HR1.out.alloc (.cells #[.string x,.bool b,.slice K d.length kc] 81)) e.symm);have hR6:=(HR1.out.alloc (.cells #[.string x,.bool b,.slice K d.length kc] 81)).same hb6;have z3:w6.cell? ⟨T,3,none⟩ = some (.slice LA ln lc):=hR6.cell 3;have z4:w6.cell? ⟨T,4,none⟩ = some (.int .i64 s.writes):=hR6.cell 4;have zf3:w6.frozen? ⟨T,3,none⟩ = false:=hR6.frozen 3;have zf4:w6.frozen? ⟨T,4,none⟩ = false:=hR6.frozen 4;obtain⟨A8,k8,rfl,hk8⟩:=RkR.own_slice hown6;clear hb6 hR6 hown6 hg6 hv6;dsimp only))
 all_goals
  go_wp2_with fail
  go_ret;exact HP6.out _ (by omega)
theorem write_some (h:Rk w base T s SA sn sc FA fn fcp LA ln lc) {k:Nat} (hk:Ok k s) (h6:k<=1000) {NA K:Option Addr} {nn nc kc:Nat} {nx:List F} {x:ByteArray} {b:Bool} {d:List UInt8} (hx:FilesT w NA nn nx) (hc:nn<=nc)
 (hd:ByT w K d.length d) (hkc:d.length<=kc) (hB:base<=w.heap.size) {m:Nat} (hm:m<9223372036854775807) (hf:s.fuse=some (m+1)) :
 Calls Tryz.prog 81 #[ptr T,.agg #[.string x,.bool b,.slice K d.length kc],.slice NA nn nc] w (RkPost w base T LA (goS s ⟨x,b,d⟩ nx) (.returned (.int .i64 (goE s)))):=by
 have hE:goE s=0:=by unfold goE; rw [hf]; exact if_neg (by simp)
 have hS:goS s ⟨x,b,d⟩ nx = { s with files:=nx,loose:=s.loose++[⟨x,b,d⟩],writes:=s.writes+1,fuse:=some m }:=by unfold goS; rw [hf]; exact if_neg (by simp)
 rw [hE,hS];have hln:=h.loose.len;have hl1:ln<=1000:=by have:=hk.loose; omega
 have hw1:s.writes<=1000:=by have:=hk.writes; omega
 obtain⟨c0,c1,c2,c3,c4,c5,c6,c7,cf⟩:=h.cells (wr:=w.alloc (.cells #[.string x,.bool b,.slice K d.length kc] 81)) (Below.heap_alloc _ _ _ h.lt);rw [hf] at c6 c7;rw [show (some (m+1)).isSome=true from rfl] at c6;rw [show fuseV (some (m+1))=(m:Int)+1 by unfold fuseV; simp] at c7;have f2:=cf 2;have f7:=cf 7;have hTs:=h.lt;have hne:w.heap.size≠T:=by omega
 obtain⟨rs,hl,ho,hdl,_⟩:=h.loose;obtain⟨W1,hW1⟩ : ∃ W1,W1=(((w.setCell ⟨T,7,none⟩ (.int .i64 (m:Int))).setCell ⟨T,2,none⟩ (.slice NA nn nc)).alloc (.cells #[.string x,.bool b,.slice K d.length kc] 81)):=⟨_,rfl⟩;have hR1:Row W1 T 102 [.int .i64 s.room,.slice SA sn sc,.slice NA nn nc,.slice LA ln lc,.int .i64 s.writes,.bool s.down,.bool true,.int .i64 (m:Int)]:=by
  rw [hW1];have h0:=((h.head.stored 7 (.int .i64 (m:Int))).stored 2 (.slice NA nn nc)).alloc (.cells #[.string x,.bool b,.slice K d.length kc] 81);rw [hf] at h0;exact h0
 have hF1:Fr w W1 T LA:=by rw [hW1]; exact (((Fr.of (Below.refl w.heap.size w)).set 7 (.int .i64 (m:Int))).set 2 (.slice NA nn nc)).alloc (.cells #[.string x,.bool b,.slice K d.length kc] 81)
 have hO1:W1.ownsRow base 81 3 (.slice LA ln lc) ln (cc rs):=by rw [hW1]; exact ((ho.kept (setCell_grown _ ⟨T,7,none⟩ (.int .i64 (m:Int))) (.inr (own_no ho h.head))).kept (setCell_grown _ ⟨T,2,none⟩ (.slice NA nn nc)) (.inr (own_no (ho.kept (setCell_grown _ ⟨T,7,none⟩ (.int .i64 (m:Int))) (.inr (own_no ho h.head))) (h.head.stored 7 (.int .i64 (m:Int)))))).alloc (.cells #[.string x,.bool b,.slice K d.length kc] 81)
 have hp0:Row W1 w.heap.size 81 [.string x,.bool b,.slice K d.length kc]:=by
  have h0:=heap_alloc_new (((w.setCell ⟨T,7,none⟩ (.int .i64 (m:Int))).setCell ⟨T,2,none⟩ (.slice NA nn nc))) (.cells #[.string x,.bool b,.slice K d.length kc] 81);rw [show (((w.setCell ⟨T,7,none⟩ (.int .i64 (m:Int))).setCell ⟨T,2,none⟩ (.slice NA nn nc))).heap.size=w.heap.size by simp [World.setCell]] at h0;rw [hW1];exact h0
 have HP:=H_ (fun (w6:World) (v:Value) (o:Obj) h6 g6 hv z hz=>Rk.wrote (w6:=w6) (r:=⟨x,b,⟨K,kc,d⟩⟩) (v:=v) (o:=o) (f7:=some m) h hl ho hdl ⟨hd,hkc⟩ hx hc hF1 hR1 rfl hO1 h6 g6 hv z hz);have HR1:=H_ hR1;have HO1:=H_ hO1;have HB1:=H_ (show base<=W1.heap.size from Nat.le_trans hB hF1.size);have HTW:=H_ hR1.lt;have p0:W1.cell? ⟨w.heap.size,0,none⟩ = some (.string x):=hp0.cell 0;have p1:W1.cell? ⟨w.heap.size,1,none⟩ = some (.bool b):=hp0.cell 1;have p2:W1.cell? ⟨w.heap.size,2,none⟩ = some (.slice K d.length kc):=hp0.cell 2;have q3:W1.cell? ⟨T,3,none⟩ = some (.slice LA ln lc):=hR1.cell 3;have g2:=((h.head.stored 7 (.int .i64 (m:Int))).alloc (.cells #[.string x,.bool b,.slice K d.length kc] 81)).frozen 2;have g2c:((w.setCell ⟨T,7,none⟩ (.int .i64 (m:Int))).alloc (.cells #[.string x,.bool b,.slice K d.length kc] 81)).cell? ⟨T,2,none⟩ = some (.slice FA fn fcp):=((h.head.stored 7 (.int .i64 (m:Int))).alloc (.cells #[.string x,.bool b,.slice K d.length kc] 81)).cell 2;have hm0:((m:Int)+1==0)=false:=by rw [beq_eq_false_iff_ne]; omega
 have q3':(W1.alloc (.cells #[.string x,.bool b,.slice K d.length kc] 81)).cell? ⟨T,3,none⟩ = some (.slice LA ln lc):=(hR1.alloc (.cells #[.string x,.bool b,.slice K d.length kc] 81)).cell 3;clear cf hx hd hl ho hdl hR1 hF1 hO1 hp0 h hE hS hln hkc hc;unfold ptr;go_enter Tryz.func81,Tryz.ntmps81;go_upto_region 7 with fail
 rw [<- hW1];clear hW1 c0 c1 c2 c3 c4 c5 c6 c7 f2 f7 hne;have HO5:=H_ (show (W1.alloc (.cells #[.string x,.bool b,.slice K d.length kc] 81)).drew.ownsRow base 81 3 (.slice LA ln lc) ln (cc rs) from HO1.out.alloc (.cells #[.string x,.bool b,.slice K d.length kc] 81));have HS5:=H_ (show Src (W1.alloc (.cells #[.string x,.bool b,.slice K d.length kc] 81)).drew (some ⟨W1.heap.size,0,none⟩) 1 3 (cell3 ⟨x,b,⟨K,kc,d⟩⟩) from src_new W1 #[.string x,.bool b,.slice K d.length kc] 81 (m:=1) (sz:=3) rfl rfl (fun u hu=>by simp at hu; rcases hu with rfl | rfl | rfl <;> rfl));have HZ5:=H_ (show base<=(W1.alloc (.cells #[.string x,.bool b,.slice K d.length kc] 81)).drew.heap.size by have:=HB1.out; show base<=(W1.alloc (.cells #[.string x,.bool b,.slice K d.length kc] 81)).heap.size; simp; omega)
 go_region_law (go_loud (
  refine step_rows elC (c:=1) rfl (.tmp 34) (.tmp 36) rfl (by simp [Act.eval]) (by simp [Act.eval]) HO5.out HS5.out (by unfold maxLen; omega) (by omega) HZ5.out ?_;intro v6 w6 hown6 hg6 hv6;have HP6:=H_ (HP.out w6 v6 (.cells #[.string x,.bool b,.slice K d.length kc] 81) hown6 (RkO.grown_of_drew hg6) hv6);have hb6:w6.heap[T]? = (W1.alloc (.cells #[.string x,.bool b,.slice K d.length kc] 81)).heap[T]?:=hg6.block T (by have:=HTW.out; show T<(W1.alloc (.cells #[.string x,.bool b,.slice K d.length kc] 81)).heap.size; simp; omega) (fun e=>own_no (HO1.out.alloc (.cells #[.string x,.bool b,.slice K d.length kc] 81)) (HR1.out.alloc (.cells #[.string x,.bool b,.slice K d.length kc] 81)) e.symm);have hR6:=(HR1.out.alloc (.cells #[.string x,.bool b,.slice K d.length kc] 81)).same hb6;have z3:w6.cell? ⟨T,3,none⟩ = some (.slice LA ln lc):=hR6.cell 3;have z4:w6.cell? ⟨T,4,none⟩ = some (.int .i64 s.writes):=hR6.cell 4;have zf3:w6.frozen? ⟨T,3,none⟩ = false:=hR6.frozen 3;have zf4:w6.frozen? ⟨T,4,none⟩ = false:=hR6.frozen 4;obtain⟨A8,k8,rfl,hk8⟩:=RkR.own_slice hown6;clear hb6 hR6 hown6 hg6 hv6;dsimp only))
 all_goals
  go_wp2_with fail
  go_ret;exact HP6.out _ (by omega)
theorem write_zero (h:Rk w base T s SA sn sc FA fn fcp LA ln lc) {NA K:Option Addr} {nn nc kc:Nat} {nx:List F} {x:ByteArray} {b:Bool} {d:List UInt8} (hf:s.fuse=some 0) :
 Calls Tryz.prog 81 #[ptr T,.agg #[.string x,.bool b,.slice K d.length kc],.slice NA nn nc] w (RkPost w base T LA (goS s ⟨x,b,d⟩ nx) (.returned (.int .i64 (goE s)))):=by
 have hE:goE s=5:=by unfold goE; rw [hf]; rfl
 have hS:goS s ⟨x,b,d⟩ nx = { s with down:=true }:=by unfold goS; exact if_pos hf
 rw [hE,hS];have hF:Fr w ((w.alloc (.cells #[.string x,.bool b,.slice K d.length kc] 81)).setCell ⟨T,5,none⟩ (.bool true)) T LA:=((Fr.of (Below.refl w.heap.size w)).alloc (.cells #[.string x,.bool b,.slice K d.length kc] 81)).set 5 (.bool true);have HP:=H_ (show RkPost w base T LA { s with down:=true } (.returned (.int .i64 5)) (.returned (.int .i64 5)) ((w.alloc (.cells #[.string x,.bool b,.slice K d.length kc] 81)).setCell ⟨T,5,none⟩ (.bool true)) from
  ⟨rfl,LA,⟨SA,sn,sc,FA,fn,fcp,ln,lc,h.turn hF ((h.head.alloc (.cells #[.string x,.bool b,.slice K d.length kc] 81)).stored 5 (.bool true)) h.sure h.scap h.files h.fcap ((h.loose.below (below_alloc w (.cells #[.string x,.bool b,.slice K d.length kc] 81))).keep (Kp.setCell (h.head.alloc (.cells #[.string x,.bool b,.slice K d.length kc] 81)) (by decide) (by decide) 5 (.bool true)) (setCell_grown _ ⟨T,5,none⟩ _) fun ad e e2=>h.TL e (Option.some.inj e2))⟩,hF,LNew.refl w LA⟩)
 obtain⟨c0,c1,c2,c3,c4,c5,c6,c7,cf⟩:=h.cells (wr:=w.alloc (.cells #[.string x,.bool b,.slice K d.length kc] 81)) (Below.heap_alloc _ _ _ h.lt);rw [hf] at c6 c7;rw [show (some 0:Option Nat).isSome=true from rfl] at c6;rw [show fuseV (some 0)=0 from rfl] at c7;have f5:=cf 5;clear cf h hF hE hS;unfold ptr;go_enter Tryz.func81,Tryz.ntmps81;go_wp2_with fail
 go_ret;exact HP.out
theorem write_any (h:Rk w base T s SA sn sc FA fn fcp LA ln lc) {k:Nat} (hk:Ok k s) (h6:k<=1000) {NA K:Option Addr} {nn nc kc:Nat} {nx:List F} {x:ByteArray} {b:Bool} {d:List UInt8} (hx:FilesT w NA nn nx) (hc:nn<=nc)
 (hd:ByT w K d.length d) (hkc:d.length<=kc) (hB:base<=w.heap.size) (hm:fuseV s.fuse<=9223372036854775807) :
 Calls Tryz.prog 81 #[ptr T,.agg #[.string x,.bool b,.slice K d.length kc],.slice NA nn nc] w (RkPost w base T LA (goS s ⟨x,b,d⟩ nx) (.returned (.int .i64 (goE s)))):=by
 cases hf:s.fuse with
 | none=>exact write_none h hk h6 hx hc hd hkc hB hf
 | some m =>
  cases m with
  | zero=>exact write_zero h hf
  | succ m =>
   rw [hf] at hm;unfold fuseV at hm;exact write_some h hk h6 hx hc hd hkc hB (m:=m) (by simp at hm; omega) hf
end
end Go.Proofs.YtoljpfapphoflaaGreatDoor.RkW

set_option maxHeartbeats 4000000
set_option maxRecDepth 100000
namespace Go.Proofs.YtoljpfapphoflaaGreatDoor.RkU
open Go.RowKit BxD BxKit RkO RkC RkD RkR RkK RkP RkQ RkE RkS RkM RkN RkV RkW
theorem Fr.after {a b c:World} {T:Nat} {LA:Option Addr} (hb:Below a.heap.size a b) (h:Fr b c T LA):Fr a c T LA :=
 ⟨h.os.trans hb.os,h.tape.trans hb.tape,h.output.trans hb.output,Nat.le_trans hb.size h.size,fun k hk h1 h2=>(h.block k (Nat.lt_of_lt_of_le hk hb.size) h1 h2).trans (hb.block k hk)⟩
theorem RkX.drewN {w:World} {base T:Nat} {s:St} {LA:Option Addr} (h:RkX w base T s LA) (n:Nat):RkX (w.drewN n) base T s LA:=by
 obtain⟨SA,sn,sc,FA,fn,fcp,ln,lc,h⟩:=h;exact⟨_,_,_,_,_,_,_,_,h.below (BxKit.below_drewN (Below.refl _ _) n)⟩
theorem RkPost.drewN {w w':World} {base T:Nat} {LA:Option Addr} {s':St} {e0 e:Ending} (h:RkPost w base T LA s' e0 e w') {n:Nat} : RkPost w base T LA s' e0 e (w'.drewN n):=by
 obtain⟨he,LA',hr,hf,hl⟩:=h;exact⟨he,LA',RkX.drewN hr n,hf.below (BxKit.below_drewN (Below.refl _ _) n),hl⟩
theorem RkPost.lift {w w3 w':World} {base T:Nat} {LA:Option Addr} {s':St} {e0 e:Ending} (hb:Below w.heap.size w w3) (h:RkPost w3 base T LA s' e0 e w'):RkPost w base T LA s' e0 e w':=by
 obtain⟨he,LA',hr,hf,hl⟩:=h;refine⟨he,LA',hr,Fr.after hb hf,fun ad e=>?_⟩;rcases hl ad e with h1 | h1
 · exact .inl (Nat.le_trans hb.size h1)
 · exact .inr h1
section
variable {w : World} {base T : Nat} {s : St} {SA FA LA : Option Addr} {sn sc fn fcp ln lc : Nat}
theorem Write_bad (h:Rk w base T s SA sn sc FA fn fcp LA ln lc) {D:Option Addr} {dn dc:Nat} {n:ByteArray} {d:List UInt8} (hl:d.length=dn) (hb:wrBad n d=true) :
 Calls Tryz.prog 37 #[ptr T,.string n,.slice D dn dc] w (RkPost w base T LA (wrS s n d) (.returned (.int .i64 (wrE s n d)))):=by
 have hE:wrE s n d=1:=if_pos hb;have hS:wrS s n d=s:=if_pos hb;rw [hE,hS];have HP:=H_ (RkPost.same h (Below.refl _ _) (.returned (.int .i64 1)));have KN:=H_ (mayName_any n w);unfold wrBad at hb;rw [hl] at hb;clear h hE hS hl;unfold ptr;cases ho:okN n with
 | false =>
  rw [ho] at KN;clear ho hb;go_enter Tryz.func37,Tryz.ntmps37;go_wp2_with (go_at_call 77; go_loud (refine KN.out.mono ?_; rintro e w1 ⟨rfl,rfl⟩))
  go_ret;exact HP.out
 | true =>
  rw [ho] at KN hb;have hgt:(200000:Int)<(dn:Int):=by
   have:=of_decide_eq_true (by simpa using hb:decide (200000<dn)=true);omega
  clear ho hb;go_enter Tryz.func37,Tryz.ntmps37;go_wp2_with (go_at_call 77; go_loud (refine KN.out.mono ?_; rintro e w1 ⟨rfl,rfl⟩))
  go_ret;exact HP.out
theorem Write_down (h:Rk w base T s SA sn sc FA fn fcp LA ln lc) {D:Option Addr} {dn dc:Nat} {n:ByteArray} {d:List UInt8} (hl:d.length=dn) (hb:wrBad n d=false) (hd:s.down=true) :
 Calls Tryz.prog 37 #[ptr T,.string n,.slice D dn dc] w (RkPost w base T LA (wrS s n d) (.returned (.int .i64 (wrE s n d)))):=by
 have hE:wrE s n d=5:=by unfold wrE; rw [hb,hd]; rfl
 have hS:wrS s n d=s:=by unfold wrS; rw [hb,hd]; rfl
 rw [hE,hS];have HP:=H_ (RkPost.same h (Below.refl _ _) (.returned (.int .i64 5)));have KN:=H_ (mayName_any n w);unfold wrBad at hb;rw [Bool.or_eq_false_iff,hl] at hb;have ho:okN n=true:=by simpa using hb.1
 have hgt : ¬ (200000:Int)<(dn:Int):=by have:=of_decide_eq_false hb.2; omega
 rw [ho] at KN;obtain⟨c0,c1,c2,c3,c4,c5,c6,c7,cf⟩:=h.cells rfl;rw [hd] at c5;clear h hE hS hl hb ho cf;unfold ptr;go_enter Tryz.func37,Tryz.ntmps37;go_wp2_with (go_at_call 77; go_loud (refine KN.out.mono ?_; rintro e w1 ⟨rfl,rfl⟩))
 go_ret;exact HP.out
theorem Write_good (h:Rk w base T s SA sn sc FA fn fcp LA ln lc) {k:Nat} (hk:Ok k s) (h6:k<=900) {D:Option Addr} {dn dc B:Nat} {n:ByteArray} {d:List UInt8} (hD:PkKit.BytesAt w B D dn d) (hB:B<=w.heap.size) (hbase:base<=w.heap.size) (hm:fuseV s.fuse<=9223372036854775807) (hb:wrBad n d=false) (hd:s.down=false) :
 Calls Tryz.prog 37 #[ptr T,.string n,.slice D dn dc] w (RkPost w base T LA (wrS s n d) (.returned (.int .i64 (wrE s n d)))):=by
 obtain⟨z1,z2⟩:=wr_ok hb;have hl:=hD.1;have KC:=H_ (clone_any (cap:=dc) hD hB (by omega));have hE:wrE s n d=if wrFull s n d then 4 else goE s:=by unfold wrE; rw [hb,hd]; rfl
 have hS:wrS s n d=if wrFull s n d then s else goS s ⟨n,false,d⟩ (putF n d s.files):=by unfold wrS; rw [hb,hd]; rfl
 rw [hE,hS];have KN:=H_ (mayName_any n w);unfold wrBad at hb;rw [Bool.or_eq_false_iff,hl] at hb;have ho:okN n=true:=by simpa using hb.1
 have hgt : ¬ (200000:Int)<(dn:Int):=by have:=of_decide_eq_false hb.2; omega
 rw [ho] at KN;obtain⟨c0,c1,c2,c3,c4,c5,c6,c7,cf⟩:=h.cells rfl;rw [hd] at c5;have HH:=H_ h;have HT:=H_ h.lt;have HL:=H_ hl;have hok:=hk.files.put z1 z2;have hfl:=h.files.len;have hfn:fn<=900:=by have:=hk.files.len; omega
 obtain⟨nx,hnx⟩ : ∃ nx,nx=putF n d s.files:=⟨_,rfl⟩;rw [<- hnx] at hok;have HNX:=H_ hnx;have HOK:=H_ hok;unfold ClB at KC;obtain⟨S',hS'⟩ : ∃ S',S'=if wrFull s n d then s else goS s ⟨n,false,d⟩ (putF n d s.files):=⟨_,rfl⟩;obtain⟨E',hE'⟩ : ∃ E',E'=if wrFull s n d then (4:Int) else goE s:=⟨_,rfl⟩;rw [<- hS',<- hE'];have HS':=H_ hS';have HE':=H_ hE';clear h hE hS hb ho cf hl hD hnx hok z1 hS' hE';unfold ptr;go_enter Tryz.func37,Tryz.ntmps37;go_upto_region 6 with (first
  | (go_at_call 77; go_loud (refine KN.out.mono ?_; rintro e w1 ⟨rfl,rfl⟩))
  | (go_at_call 78; go_loud (refine KC.out.mono ?_; rintro e w1 ⟨K,kc,rfl,hkc,hby,hw1⟩; have HBY:=H_ hby; have HB1:=H_ hw1; clear hby hw1)))
 obtain⟨W2,hW2⟩ : ∃ W2,W2=w1.alloc (.cells #[.string n,.bool false,.slice K d.length kc] 81):=⟨_,rfl⟩;have hB2:Below w.heap.size w W2:=by rw [hW2]; exact HB1.out.alloc HB1.out.size _
 have hP:Row W2 w1.heap.size 81 [.string n,.bool false,.slice K d.length kc]:=by rw [hW2]; exact heap_alloc_new w1 _
 have HS2:=H_ (show w1.heap.size<W2.heap.size by rw [hW2]; simp);rw [<- hW2];have hby2:ByT W2 K d.length d:=by rw [hW2]; exact HBY.out.kp (Kp.alloc _ _)
 have p0:W2.cell? ⟨w1.heap.size,0,none⟩ = some (.string n):=hP.cell 0;have p1:W2.cell? ⟨w1.heap.size,1,none⟩ = some (.bool false):=hP.cell 1;have p2:W2.cell? ⟨w1.heap.size,2,none⟩ = some (.slice K d.length kc):=hP.cell 2;have x2:W2.cell? ⟨T,2,none⟩ = some (.slice FA fn fcp):=(hB2.cell (p:=⟨T,2,none⟩) HT.out).trans c2;have hKp2:=Kp.below hB2 lr_;have KD:=H_ (done_put (w:=W2.drew) (k:=n) (cp:=fcp) (HH.out.files.kp hKp2) (by omega) HH.out.fcap hk.files.srt (d:=d) hby2 hkc);unfold DnPost at KD;rw [<- HNX.out] at KD;have HB2:=H_ hB2;have HBY2:=H_ hby2;obtain⟨q,hq⟩ : ∃ q,q=nx.length:=⟨_,rfl⟩;rw [<- hq] at KD;have hq1:q<=901:=by have:=HOK.out.len; omega
 have HQ:=H_ hq;obtain⟨m,hmd⟩ : ∃ m,m=d.length:=⟨_,rfl⟩;rw [<- hmd] at KD p2 hkc z2;rw [<- hmd];have HMD:=H_ hmd;clear hW2 hB2 hP hby2 hKp2 hq hmd c1 c2 c3 c4 c5 c6 c7 KC KN hB hgt;have hcells:=fun (w3:World) (hb:Below W2.heap.size W2 w3) (o:Nat)=>(hb.cell (p:=⟨w1.heap.size,o,none⟩) HS2.out);have HC3:=H_ (fun (w3:World) (hb:Below W2.heap.size W2 w3)=>show w3.cell? ⟨T,2,none⟩ = some (.slice FA fn fcp)/\w3.cell? ⟨w1.heap.size,0,none⟩ = some (.string n)/\w3.cell? ⟨w1.heap.size,1,none⟩ = some (.bool false)/\w3.cell? ⟨w1.heap.size,2,none⟩ = some (.slice K m kc) from
  ⟨(hb.cell (p:=⟨T,2,none⟩) (Nat.lt_of_lt_of_le HT.out HB2.out.size)).trans x2,(hcells w3 hb 0).trans p0,(hcells w3 hb 1).trans p1,(hcells w3 hb 2).trans p2⟩)
 clear hcells
 go_region_held3 (fun wq=>wq.cell? ⟨T,2,none⟩ = some (.slice FA fn fcp)/\wq.cell? ⟨w1.heap.size,0,none⟩ = some (.string n)/\wq.cell? ⟨w1.heap.size,1,none⟩ = some (.bool false)/\wq.cell? ⟨w1.heap.size,2,none⟩ = some (.slice K m kc)) (with_reducible first | exact⟨x2,p0,p1,p2⟩ | exact f3 | go_keep) (first
  | (go_at_call 79; go_loud (
     refine KD.out.mono ?_;rintro e w3 ⟨A3,k3,rfl,hk3,hf3,hw3⟩;have HF3:=H_ hf3;have HB3:=H_ (show Below W2.heap.size W2 w3 from (Below.drew (Below.refl W2.heap.size W2)).trans hw3);have f3:=HC3.out w3 HB3.out;clear hf3 hw3;dsimp only)))
 rename_i hHeld;clear hHeld;clear p0 p1 p2 x2 KD;have HB30:=H_ (HB2.out.trans (HB3.out.mono HB2.out.size));obtain⟨x3,y0,y1,y2⟩:=f3;by_cases h40:40<q
 · have HP:=H_ (show RkPost w base T LA S' (.returned (.int .i64 E')) (.returned (.int .i64 4)) w3 by
    have hf:wrFull s n d=true:=by unfold wrFull; rw [<- HNX.out,<- HQ.out,decide_eq_true h40]; rfl
    rw [HE'.out,HS'.out,hf];exact RkPost.same HH.out HB30.out _)
   have hd40:decide ((40:Int)<(q:Int))=true:=decide_eq_true (by omega);have h40i:(40:Int)<(q:Int):=by omega
   clear x3 y0 y1 y2;go_upto_region 7 with fail
   go_quiet (fail)
   go_wp2_with fail
   go_ret;exact RkPost.drewN HP.out
 · have hd40:decide ((40:Int)<(q:Int))=false:=decide_eq_false (by omega)
   have KO:=H_ (costs_any (w:=w3.drew) (cap:=k3) (by omega) HOK.out.sz HF3.out);have hcb:=HOK.out.cost;obtain⟨C,hC⟩ : ∃ C,C=costs nx:=⟨_,rfl⟩;rw [<- hC] at KO hcb;have HC:=H_ hC;have r0:w3.cell? ⟨T,0,none⟩ = some (.int .i64 s.room):=(HB30.out.cell (p:=⟨T,0,none⟩) HT.out).trans c0;have HR:=H_ r0;clear hC x3;have HT3:=H_ (show T<w3.heap.size/\w1.heap.size<w3.heap.size from ⟨Nat.lt_of_lt_of_le HT.out HB30.out.size,Nat.lt_of_lt_of_le HS2.out HB3.out.size⟩);have HY:=H_ (show w3.cell? ⟨w1.heap.size,0,none⟩ = some (.string n)/\w3.cell? ⟨w1.heap.size,1,none⟩ = some (.bool false)/\w3.cell? ⟨w1.heap.size,2,none⟩ = some (.slice K m kc) from ⟨y0,y1,y2⟩);clear y0 y1 y2;go_upto_region 7 with fail
   go_region_held3 (fun wq=>wq.cell? ⟨T,0,none⟩ = some (.int .i64 s.room)) (with_reducible first | exact r0 | exact r4 | go_keep) (first
    | (go_at_call 80; go_loud (
       refine KO.out.mono ?_;rintro e w4 ⟨rfl,hw4⟩;have HB4:=H_ (show Below w3.heap.size w3 w4 from (Below.drew (Below.refl w3.heap.size w3)).trans hw4);have r4:w4.cell? ⟨T,0,none⟩ = some (.int .i64 s.room):=(HB4.out.cell (p:=⟨T,0,none⟩) HT3.out.1).trans HR.out;clear hw4;dsimp only)))
   rename_i hHeld;clear hHeld;have HB40:=H_ (HB30.out.trans (HB4.out.mono HB30.out.size));by_cases hfu:s.room<C
   · have HP:=H_ (show RkPost w base T LA S' (.returned (.int .i64 E')) (.returned (.int .i64 4)) w4 by
      have hf:wrFull s n d=true:=by unfold wrFull; rw [<- HNX.out,<- HC.out,decide_eq_true hfu,Bool.or_true]
      rw [HE'.out,HS'.out,hf];exact RkPost.same HH.out HB40.out _)
     have hfi:(s.room:Int)<(C:Int):=by omega
     go_wp2_with fail
     go_ret;exact HP.out
   · have hfi : ¬ (s.room:Int)<(C:Int):=by omega
     have z0:w4.cell? ⟨w1.heap.size,0,none⟩ = some (.string n):=(HB4.out.cell (p:=⟨w1.heap.size,0,none⟩) HT3.out.2).trans HY.out.1;have z1:w4.cell? ⟨w1.heap.size,1,none⟩ = some (.bool false):=(HB4.out.cell (p:=⟨w1.heap.size,1,none⟩) HT3.out.2).trans HY.out.2.1;have z3:w4.cell? ⟨w1.heap.size,2,none⟩ = some (.slice K m kc):=(HB4.out.cell (p:=⟨w1.heap.size,2,none⟩) HT3.out.2).trans HY.out.2.2;have KW:=H_ (show Calls Tryz.prog 81 #[ptr T,.agg #[.string n,.bool false,.slice K m kc],.slice A3 q k3] w4 (RkPost w base T LA S' (.returned (.int .i64 E'))) by
      have hf:wrFull s n d=false:=by unfold wrFull; rw [<- HNX.out,<- HC.out,<- HQ.out,decide_eq_false hfu,decide_eq_false h40]; rfl
      have hkp4:Kp W2 w4:=(Kp.below HB3.out lr_).trans (Kp.below HB4.out lr_);have hkc':=hkc;rw [HMD.out] at hkc';have hW:=write_any (HH.out.below HB40.out) hk (by omega) (x:=n) (b:=false) (HF3.out.kp (Kp.below HB4.out lr_)) hk3 (HBY2.out.kp hkp4) hkc' (Nat.le_trans hbase HB40.out.size) hm;rw [HE'.out,HS'.out,hf,HMD.out,<- HNX.out];exact hW.mono fun e w' h=>RkPost.lift HB40.out h)
     unfold ptr at KW;go_wp2_with (go_at_call 81; go_loud (refine KW.out.mono ?_; rintro e w5 ⟨rfl,hg⟩; have HG:=H_ hg; clear hg))
     go_ret;exact⟨rfl,HG.out⟩
theorem Write_any (h:Rk w base T s SA sn sc FA fn fcp LA ln lc) {k:Nat} (hk:Ok k s) (h6:k<=900) {D:Option Addr} {dn dc B:Nat} {n:ByteArray} {d:List UInt8} (hD:PkKit.BytesAt w B D dn d) (hB:B<=w.heap.size) (hbase:base<=w.heap.size) (hm:fuseV s.fuse<=9223372036854775807) :
 Calls Tryz.prog 37 #[ptr T,.string n,.slice D dn dc] w (RkPost w base T LA (wrS s n d) (.returned (.int .i64 (wrE s n d)))):=by
 cases hb:wrBad n d with
 | true=>exact Write_bad h hD.1 hb
 | false =>
  cases hd:s.down with
  | true=>exact Write_down h hD.1 hb hd
  | false=>exact Write_good h hk h6 hD hB hbase hm hb hd
end
end Go.Proofs.YtoljpfapphoflaaGreatDoor.RkU

set_option maxHeartbeats 4000000
set_option maxRecDepth 100000
namespace Go.Proofs.YtoljpfapphoflaaGreatDoor.RkT
open Go.RowKit BxD BxKit RkO RkC RkD RkR RkK RkP RkQ RkE RkS RkM RkN RkV RkW RkU
section
variable {w : World} {base T : Nat} {s : St} {SA FA LA : Option Addr} {sn sc fn fcp ln lc : Nat}
theorem Cut_any (h:Rk w base T s SA sn sc FA fn fcp LA ln lc) {k:Nat} (hk:Ok k s) (h6:k<=900) {n:ByteArray} (hbase:base<=w.heap.size) (hm:fuseV s.fuse<=9223372036854775807) :
 Calls Tryz.prog 84 #[ptr T,.string n] w (RkPost w base T LA (ctS s n) (.returned (.int .i64 (ctE s n)))):=by
 have KN:=H_ (mayName_any n w);obtain⟨c0,c1,c2,c3,c4,c5,c6,c7,cf⟩:=h.cells rfl;have HH:=H_ h;have HT:=H_ h.lt;have hfl:=h.files.len;have hfn:fn<=900:=by have:=hk.files.len; omega
 clear cf;cases ho:okN n with
 | false =>
  rw [ho] at KN;have HP:=H_ (RkPost.same h (Below.refl _ _) (.returned (.int .i64 1)));have hE:ctE s n=1:=by unfold ctE; rw [ho]; rfl
  have hS:ctS s n=s:=by unfold ctS; rw [ho]; rfl
  rw [hE,hS];clear h ho hE hS;unfold ptr;go_enter Tryz.func84,Tryz.ntmps84;go_wp2_with (go_at_call 77; go_loud (refine KN.out.mono ?_; rintro e w1 ⟨rfl,rfl⟩))
  go_ret;exact HP.out
 | true =>
  rw [ho] at KN;cases hd:s.down with
  | true =>
   have HP:=H_ (RkPost.same h (Below.refl _ _) (.returned (.int .i64 5)));have hE:ctE s n=5:=by unfold ctE; rw [ho,hd]; rfl
   have hS:ctS s n=s:=by unfold ctS; rw [ho,hd]; rfl
   rw [hE,hS];rw [hd] at c5;clear h ho hE hS;unfold ptr;go_enter Tryz.func84,Tryz.ntmps84;go_wp2_with (go_at_call 77; go_loud (refine KN.out.mono ?_; rintro e w1 ⟨rfl,rfl⟩))
   go_ret;exact HP.out
  | false =>
   rw [hd] at c5;have KP:=H_ (place_any (cap:=fcp) n (by omega) hk.files.srt h.files);unfold PlPost at KP;cases hh:hitF n s.files with
   | false =>
    have hE:ctE s n=6:=by unfold ctE; rw [ho,hd,hh]; rfl
    have hS:ctS s n=s:=by unfold ctS; rw [ho,hd,hh]; rfl
    rw [hE,hS];rw [hh] at KP;clear h ho hh hd hE hS;unfold ptr;go_enter Tryz.func84,Tryz.ntmps84;go_wp2_with (first
     | (go_at_call 77; go_loud (refine KN.out.mono ?_; rintro e w1 ⟨rfl,rfl⟩))
     | (go_at_call 98; go_loud (refine KP.out.mono ?_; rintro e w1 ⟨rfl,hb1⟩; have HP:=H_ (RkPost.same HH.out hb1 (.returned (.int .i64 6))); clear hb1)))
    go_ret;exact HP.out
   | true =>
    have hE:ctE s n=goE s:=by unfold ctE; rw [ho,hd,hh]; rfl
    have hS:ctS s n=goS s ⟨n,true,[]⟩ (cutF n s.files):=by unfold ctS; rw [ho,hd,hh]; rfl
    rw [hE,hS];rw [hh] at KP;clear hE hS;obtain⟨S',hS'⟩ : ∃ S',S'=goS s ⟨n,true,[]⟩ (cutF n s.files):=⟨_,rfl⟩;obtain⟨E',hE'⟩ : ∃ E',E'=goE s:=⟨_,rfl⟩;rw [<- hS',<- hE'];have HS':=H_ hS';have HE':=H_ hE';obtain⟨nx,hnx⟩ : ∃ nx,nx=cutF n s.files:=⟨_,rfl⟩;have HNX:=H_ hnx;clear h ho hh hd hS' hE' hnx c0 c1 c3 c4 c6 c7;unfold ptr;go_enter Tryz.func84,Tryz.ntmps84;go_upto_region 9 with (first
     | (go_at_call 77; go_loud (refine KN.out.mono ?_; rintro e w1 ⟨rfl,rfl⟩))
     | (go_at_call 98; go_loud (refine KP.out.mono ?_; rintro e w1 ⟨rfl,hb1⟩; have HB1:=H_ hb1; clear hb1)))
    obtain⟨W2,hW2⟩ : ∃ W2,W2=w1.alloc (.cells #[.string n,.bool true,.slice none 0 0] 81):=⟨_,rfl⟩;have hB2:Below w.heap.size w W2:=by rw [hW2]; exact HB1.out.alloc HB1.out.size _
    have hP:Row W2 w1.heap.size 81 [.string n,.bool true,.slice none 0 0]:=by rw [hW2]; exact heap_alloc_new w1 _
    have HS2:=H_ (show w1.heap.size<W2.heap.size by rw [hW2]; simp);rw [<- hW2];have p0:W2.cell? ⟨w1.heap.size,0,none⟩ = some (.string n):=hP.cell 0;have p1:W2.cell? ⟨w1.heap.size,1,none⟩ = some (.bool true):=hP.cell 1;have p2:W2.cell? ⟨w1.heap.size,2,none⟩ = some (.slice none 0 0):=hP.cell 2;have x2:W2.cell? ⟨T,2,none⟩ = some (.slice FA fn fcp):=(hB2.cell (p:=⟨T,2,none⟩) HT.out).trans c2;have KD:=H_ (done_cut (w:=W2.drew) (k:=n) (cp:=fcp) (K:=none) (dn:=0) (kc:=0) (HH.out.files.kp (Kp.drew (Kp.below hB2 lr_))) (by omega) HH.out.fcap hk.files.srt);unfold DnPost at KD;rw [<- HNX.out] at KD;have HB2:=H_ hB2;have HCL:=H_ (fun (w3:World) (hb:Below W2.heap.size W2 w3)=>show w3.cell? ⟨w1.heap.size,0,none⟩ = some (.string n)/\w3.cell? ⟨w1.heap.size,1,none⟩ = some (.bool true)/\w3.cell? ⟨w1.heap.size,2,none⟩ = some (.slice none 0 0) from
     ⟨(hb.cell (p:=⟨w1.heap.size,0,none⟩) HS2.out).trans p0,(hb.cell (p:=⟨w1.heap.size,1,none⟩) HS2.out).trans p1,(hb.cell (p:=⟨w1.heap.size,2,none⟩) HS2.out).trans p2⟩)
    obtain⟨q,hq⟩ : ∃ q,q=nx.length:=⟨_,rfl⟩;rw [<- hq] at KD;clear hW2 hB2 hP c2 c5 KP KN hq
    go_region_law (go_simp; first
     | (go_at_call 79; go_loud (
        refine KD.out.mono ?_;rintro e w3 ⟨A3,k3,rfl,hk3,hf3,hw3⟩;have HB3:=H_ (show Below W2.heap.size W2 w3 from (Below.drew (Below.refl W2.heap.size W2)).trans hw3);obtain⟨y0,y1,y2⟩:=HCL.out w3 HB3.out;have HB30:=H_ (HB2.out.trans (HB3.out.mono HB2.out.size));have KW:=H_ (show Calls Tryz.prog 81 #[ptr T,.agg #[.string n,.bool true,.slice none 0 0],.slice A3 q k3] w3 (RkPost w base T LA S' (.returned (.int .i64 E'))) by
         have hW:=write_any (HH.out.below HB30.out) hk (by omega) (x:=n) (b:=true) (d:=[]) (K:=none) (kc:=0) hf3 hk3 (ByT.nil _ _) lr_ (Nat.le_trans hbase HB30.out.size) hm;rw [HE'.out,HS'.out,<- HNX.out];exact hW.mono fun e w' h=>RkPost.lift HB30.out h)
        clear hf3 hw3;dsimp only))
     | (go_at_call 81; go_loud (
        refine KW.out.mono ?_;rintro e w5 ⟨rfl,hg⟩;have HG:=H_ hg;clear hg;dsimp only)))
    all_goals
     go_wp2_with fail
     go_ret;exact⟨rfl,HG.out⟩
end
end Go.Proofs.YtoljpfapphoflaaGreatDoor.RkT

set_option maxRecDepth 100000
namespace Go.Proofs.YtoljpfapphoflaaGreatDoor.RkG
open Go.RowKit BxD BxKit RkO RkC RkD RkR RkK RkP RkQ RkE RkS RkM RkN RkV RkW RkU RkT
def FuOk (s:St):Prop:=fuseV s.fuse<=9223372036854775807
theorem FuOk.new (r:Int):FuOk (newS r):=by unfold FuOk newS fuseV; simp
theorem FuOk.go {s:St} (h:FuOk s) (c:Ch) (nx:List F):FuOk (goS s c nx):=by
 unfold goS;split
 · exact h
 · unfold FuOk fuseV at h ⊢
   cases hf:s.fuse with
   | none=>simp
   | some m=>rw [hf] at h; simp at h ⊢; omega
theorem FuOk.wr {s:St} (h:FuOk s) (n:ByteArray) (d:List UInt8):FuOk (wrS s n d):=by
 unfold wrS;split
 · exact h
 · split
   · exact h
   · split
     · exact h
     · exact h.go _ _
theorem FuOk.ct {s:St} (h:FuOk s) (n:ByteArray):FuOk (ctS s n):=by
 unfold ctS;split
 · exact h
 · split
   · exact h
   · split
     · exact h
     · exact h.go _ _
theorem FuOk.fl {s:St} (h:FuOk s):FuOk (flS s):=by unfold flS; split <;> exact h
section
variable {w0 w : World} {T k : Nat} {s : St}
end
end Go.Proofs.YtoljpfapphoflaaGreatDoor.RkG
