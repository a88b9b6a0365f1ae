/-
  BxO + FoN + BxCp + BxLaw
-/
import Derived.Test.YtoljpfapphoflaaGreatDoorZ8
import Derived.Test.YtoljpfapphoflaaGreatDoorShelf
import Derived.Lib.LaidTab
import Derived.Lib.ItoaNum
import Derived.Lib.SmallJoins
import Derived.Stop.LaidErr
import Derived.MakeChecks
import Derived.Test.YtoljpfapphoflaaGreatDoorN4
import Derived.Deep.DeepCutAuto
import Derived.Deep.RegionLaw
import Derived.WalkKit
import Derived.ProofKit
import Derived.OpenShut
import Derived.Carry
import Derived.Deep.Slices
import Derived.Deep.Fields
import Derived.ChangeSame
import Derived.SizedLaws
import Derived.LaidMore
import Derived.Stop.Joined
import Derived.SevenTiedAt
import Derived.Test.YtoljpfapphoflaaGreatDoorCards
import Derived.Test.YtoljpfapphoflaaGreatDoorTie
set_option linter.unusedVariables false
set_option linter.unusedSimpArgs false
set_option maxHeartbeats 1000000
set_option maxRecDepth 512
namespace Go.Proofs.YtoljpfapphoflaaGreatDoor.BxO
open Go.RowKit BxD BxKit BxA
def laid : List (String × DataW Unit) := [("math/bits.deBruijn32tab", Rows.laid_math_bits_deBruijn32tab), ("math/bits.deBruijn64tab", Rows.laid_math_bits_deBruijn64tab), ("internal/strconv.uint64pow10", Rows.laid_internal_strconv_uint64pow10)]
def Tab (w : World) : Prop := Lib.TabIs Tryz.prog w "internal/strconv.uint64pow10" .u64 Lib.pow10Tab
theorem gPow : Tryz.prog.globalNamed "internal/strconv.uint64pow10" = some 1 := by kernel_rfl
theorem tPow:(Tryz.prog.globals[1]?).map (·.type)=some 219:=by kernel_rfl
theorem cArr:Tryz.prog.cellsOf 219=20:=by kernel_rfl
theorem cOne:Tryz.prog.cellsOf 32=1:=by kernel_rfl
theorem powData:Rows.laid_internal_strconv_uint64pow10 (H:=Unit)=Lib.tabData .u64 Lib.pow10Tab:=by kernel_rfl
theorem tab_of_laid {W:World} (h:laidMetH Tryz.prog laid W):Tab W:=by
 rw [MakeChecks.laidMetH_plain _ _ _ (by kernel_rfl)] at h
 have h2:=(laidMet.tail (laidMet.tail h))
 rw [powData] at h2
 exact Lib.tabIs_of_head gPow tPow Tryz.underlying219 Tryz.underlying32 cOne cArr h2
theorem Tab.below {B:Nat} {w w':World} (h:Tab w) (hb:Below B w w') (hB:w.heap.size≤B):Tab w':=_root_.Go.Joins.tab_stays gPow h hb hB
theorem below_grow (B:Nat) (w:World) (hB:B≤w.heap.size) (k:Nat) (os:Array Obj):Below B w (Sort.grow (w.drewN k) os):=by
 refine⟨rfl,rfl,rfl, ?_,fun i hi=>?_⟩
 · show w.heap.size≤(w.heap++os).size
   rw [Array.size_append]; omega
 · show (w.heap++os)[i]? = w.heap[i]?
   rw [Array.getElem?_append_left (by omega)]
theorem nDigits_le (k:Nat) : ∀ n:Nat,n<10 ^ (k+1)→Lib.nDigits n≤k+1:=by
 induction k with
 | zero=>intro n h; rw [Lib.nDigits_small (by simpa using h)]; omega
 | succ k ih =>
  intro n h
  by_cases hs:n<10
  · rw [Lib.nDigits_small hs]; omega
  · rw [Lib.nDigits_big hs]
    have:=ih (n / 10) (by rw [Nat.div_lt_iff_lt_mul (by decide)]; rw [Nat.pow_succ] at h; exact h)
    omega
def digs (u:Int):List UInt8:=Lib.itoa (max u 0)
theorem digs_eq (u:Int):digs u=Lib.decDigits (max u 0).toNat:=by
 unfold digs Lib.itoa
 rw [if_neg (by omega)]
theorem digs_len {u:Int} (h:u≤9223372036854775807):(digs u).length≤20:=by
 rw [digs_eq,Lib.decDigits_length]
 exact nDigits_le 19 _ (Nat.lt_of_le_of_lt (show (max u 0).toNat≤9223372036854775807 by omega) (by decide))
theorem own_parts (id:ByteArray) (u:Int):ownT id u=⟨#[101]⟩++⟨(digs u).toArray⟩++⟨#[45]⟩++id:=rfl
theorem itoa_max {u:Int} {w:World} (ht:Tab w) (h:u≤9223372036854775807):Calls Tryz.prog 63 #[.int .i64 (max u 0)] w fun e w'=>e = .returned (.string ⟨(digs u).toArray⟩)∧Below w.heap.size w w' :=
 (Tryz.strconv_Itoa (max u 0) (by omega) (by omega) w ht).mono fun e w' ⟨he,k,os,hw⟩=>⟨he,by rw [hw]; exact below_grow _ _ (Nat.le_refl _) _ _⟩
theorem own_any {id:ByteArray} {u:Int} {w:World} (ht:Tab w) (h:u≤9223372036854775807) (hid:id.size≤200) :
 Calls Tryz.prog 168 #[.string id,.int .i64 u] w fun e w'=>e = .returned (.string (ownT id u))∧Below w.heap.size w w':=by
 have C:=itoa_max ht h
 have hl:=digs_len h
 have HF:=Lib.hid (own_parts id u)
 obtain⟨D,hD⟩ : ∃ D:ByteArray,D=⟨(digs u).toArray⟩:=⟨_,rfl⟩
 have hds:D.size≤20:=by
  rw [hD]
  show ((digs u).toArray).size≤20
  simpa using hl
 rw [← hD] at C HF
 clear hD hl ht h
 skip
 have K:=Lib.hid C
 clear C
 go_enter Tryz.func168,Tryz.ntmps168
 go_wp2_with (go_at_call 63; (refine K.out.mono ?_; rintro e w' ⟨rfl,hb⟩))
 go_ret
 exact⟨ret_str HF.out.symm,hb⟩
end Go.Proofs.YtoljpfapphoflaaGreatDoor.BxO

set_option maxRecDepth 512
namespace Go.Proofs.YtoljpfapphoflaaGreatDoor.FoN
open Go.RowKit BxD BxKit BxA BxO
theorem digit_at (u i:Nat) (h:i<Lib.nDigits u):(Lib.decDigits u)[i]? = some (Lib.dg u (Lib.nDigits u-1-i)):=by
 rw [Lib.decDigits_eq,List.getElem?_map,List.getElem?_range h]; rfl
theorem dg_val (u j:Nat):(Lib.dg u j).toNat=48+u / 10 ^ j % 10:=by
 unfold Lib.dg
 have:u / 10 ^ j % 10<10:=Nat.mod_lt _ (by decide)
 rw [UInt8.toNat_ofNat',Nat.mod_eq_of_lt (by omega)]
theorem digit_range (u:Nat) (c:UInt8) (hc:c∈Lib.decDigits u):48≤c.toNat∧c.toNat≤57:=by
 obtain⟨i,hi,e⟩:=List.getElem_of_mem hc
 rw [Lib.decDigits_length] at hi
 have h1:=digit_at u i hi
 rw [List.getElem?_eq_getElem (by rw [Lib.decDigits_length]; exact hi),e] at h1
 have h2:=dg_val u (Lib.nDigits u-1-i)
 have h3:u / 10 ^ (Lib.nDigits u-1-i) % 10<10:=Nat.mod_lt _ (by decide)
 rw [← Option.some.inj h1] at h2
 omega
def val (l:List UInt8):Nat:=l.foldl (fun n c=>n*10+(c.toNat-48)) 0
theorem own_list (id:ByteArray) {u:Int} (h:0≤u):(ownT id u).data.toList=101::(Lib.decDigits u.toNat++45::id.data.toList):=by
 rw [own_parts,digs_eq,show max u 0=u by omega]
 simp [ByteArray.data_append]
theorem own_size (id:ByteArray) {u:Int} (h:0≤u) (h2:u≤999999):(ownT id u).size≤8+id.size∧1≤(ownT id u).size:=by
 have h1:(ownT id u).size=(ownT id u).data.toList.length:=by simp
 rw [h1,own_list id h]
 have:=nDigits_le 5 u.toNat (by omega)
 simp [Lib.decDigits_length]
 omega
theorem own_atom {id:ByteArray} {u:Int} (h:0≤u) (h2:u≤999999) (hi:id.size≤12) (ha:atB id=true):atB (ownT id u)=true:=by
 obtain⟨s1,s2⟩:=own_size id h h2
 have hc:(ownT id u).data.toList.all atC=true:=by
  rw [own_list id h,List.all_cons,List.all_append,List.all_cons]
  have h3:(Lib.decDigits u.toNat).all atC=true:=by
   rw [List.all_eq_true]
   intro c hc
   have:=digit_range _ c hc
   unfold atC
   simp only [Bool.or_eq_true,Bool.and_eq_true,decide_eq_true_eq]
   exact .inl (.inr this)
  have h4:id.data.toList.all atC=true:=by
   unfold atB at ha
   simp only [Bool.and_eq_true] at ha
   exact ha.2
  rw [h3,h4]; rfl
 exact atB_good (k:=(ownT id u).size) s2 (by omega) rfl (by rw [List.take_of_length_le (by simp)]; exact hc)
end Go.Proofs.YtoljpfapphoflaaGreatDoor.FoN

set_option maxHeartbeats 4000000
set_option maxRecDepth 512
namespace Go.Proofs.YtoljpfapphoflaaGreatDoor.BxCp
open Go.RowKit BxD BxKit BxA BxR BxC
theorem below_none {w w':World} (h:w.grownBy w' none):Below w.heap.size w w':=⟨h.os,h.tape,h.output,h.size,fun k hk=>h.block k hk (by simp)⟩
set_option maxRecDepth 100000 in
theorem copy_any {bid:ByteArray} {bv bn bh:Int} {WA MA:Option Addr} {wn wc mn mcp B0:Nat} {ws:List ByteArray} {ms:List Msg} {w:World} (hx:StrsAt w B0 WA wn ws) (hm:MsgsAt w B0 MA mn ms) (hB:B0≤w.heap.size) (hwn:wn≤100) (hmn:mn≤100) (hk : ∀ m∈ms,m.keys.length≤60000) :
 Calls Tryz.prog 68 #[.agg #[.string bid,.int .i64 bv,.int .i64 bn,.int .i64 bh,.slice WA wn wc,.slice MA mn mcp]] w (CpPost bid bv bn bh wn mn ws ms w):=by
 have P0:=Lib.hid (PI.start bid bv bn bh w (.slice WA wn wc) (.slice MA mn mcp))
 have HX:=Lib.hid (StrsAt.below hx P0.out.bel hB)
 have HM:=Lib.hid hm
 have HK:=Lib.hid hk
 clear hx hm hk
 go_enter Tryz.func68,Tryz.ntmps68
 go_upto_region 2 with (first
  | (at_builtin
     refine wpList_rows elS rfl _ _ rfl rfl rfl (World.ownsRow_nil _ (w.heap.size+2) _ _) (strs_src HX.out) (by unfold maxLen; omega) (by omega) P0.out.size ?_
     intro v1 w1 hown hg _
     obtain⟨A1,k1,rfl,hk1⟩:=own_slice hown
     rw [Nat.zero_add,List.nil_append] at hown
     have P1:=Lib.hid (P0.out.go (below_none hg))
     have HO:=Lib.hid hown
     clear hown hg
     obtain⟨c0,c1,c2,c3,c4,c5⟩:=P1.out.cells
     have c6:=P1.out.free 4))
 have hp:=P1.out.set4 (.slice A1 (0+wn) k1)
 have ho:=ownsRow_setCell_below HO.out (a:={ block:=w.heap.size,off:=4 }) (by show w.heap.size<_; omega) (.slice A1 (0+wn) k1)
 rw [Nat.zero_add] at hp ho
 have P2:=Lib.hid hp
 have HO2:=Lib.hid ho
 clear hp ho c0 c1 c2 c3 c4 c5 c6 HO P1 P0 HX
 generalize (World.setCell w1 _ _)=w2 at P2 HO2 ⊢
 obtain⟨rs,hrm,hko,hsr⟩:=msgs_raw (MsgsAt.below HM.out P2.out.bel hB)
 have HR:=Lib.hid hrm
 have HKO:=Lib.hid hko
 have HSR:=Lib.hid hsr
 clear hrm hko hsr
 obtain⟨c0,c1,c2,c3,c4,c5⟩:=P2.out.cells
 go_upto_region 3 with (first
  | (at_builtin
     refine wpList_rows elM rfl _ _ rfl rfl rfl (World.ownsRow_nil _ (w.heap.size+2) _ _) HSR.out (by unfold maxLen; omega) (by omega) P2.out.size ?_
     intro v3 w3 hown hg _
     obtain⟨A2,k2,rfl,hk2⟩:=own_slice hown
     rw [Nat.zero_add,List.nil_append] at hown
     have P3:=Lib.hid (P2.out.go (below_none hg))
     have HB3:=Lib.hid (below_none hg)
     have HO3:=Lib.hid hown
     clear hown hg c0 c1 c2 c3 c4 c5
     obtain⟨c0,c1,c2,c3,c4,c5⟩:=P3.out.cells
     have c6:=P3.out.free 5))
 have hI:=CI.first P2.out HO2.out HR.out HKO.out hB HB3.out HO3.out
 have HI:=Lib.hid hI
 clear hI c0 c1 c2 c3 c4 c5 c6 P2 HO2 P3 HO3 HB3 HR HKO HSR HM
 generalize hW:(World.setCell w3 _ _)=w4 at HI ⊢
 clear hW
 obtain⟨c0,c1,c2,c3,c4,c5⟩:=HI.out.pi.cells
 go_wp2_with fail
 go_loopw [15] (fun s15 wr=>∃ (k:Nat) (rs':List Raw),k≤mn∧s15 = .int .i64 k∧Hid (CI bid bv bn bh w wr B0 k (.slice A1 wn k1) (.slice A2 mn k2) wn mn ws ms rs')) (fun s15 _=>mn-(intOf s15).toNat)
 case atStart=>exact⟨0,rs,Nat.zero_le _,rfl,HI⟩
 case round =>
  clear HI c0 c1 c2 c3 c4 c5
  obtain⟨k,rs',hk,rfl,HI⟩:=hrel
  by_cases hlt:k<mn
  · obtain⟨c0,c1,c2,c3,c4,c5⟩:=HI.out.pi.cells
    have hlen:=HI.out.len
    obtain⟨g,cap,hA,_,_⟩:=own_form HI.out.om (by omega)
    injection hA with hA1 hA2 hA3
    subst hA1 hA3
    have hg:k<rs'.length:=by omega
    have hr:=List.getElem?_eq_getElem hg
    generalize rs'[k]=r at hr
    have hco:wr.cell? { block:=g,off:=k*7+5 } = some (.slice r.K r.m.keys.length r.c):=own_cell HI.out.om rfl ((mc_get rs' k 5 r hr (by decide)).trans rfl)
    have hfr:wr.frozen? { block:=g,off:=k*7+5 } = false:=own_free HI.out.om rfl _
    have h6:r.m.keys.length≤60000:=HK.out r.m (by rw [← HI.out.rm]; exact List.mem_map_of_mem (List.mem_of_getElem? hr))
    have HS:=Lib.hid (ints_src (HI.out.old k r (Nat.le_refl _) hr))
    have HD:=Lib.hid (Below.drew (Below.refl wr.heap.size wr))
    have HRR:=Lib.hid hr
    clear hr hlen
    generalize hks:r.m.keys.length=kl at hco h6 HS
    go_upto_region 6 with fail
    go_region_law (first
     | (refine step_rows elI rfl _ _ rfl rfl rfl (World.ownsRow_nil _ wr.heap.size _ _) HS.out (by unfold maxLen; omega) (by omega) (Nat.le_refl _) ?_
        intro v5 w5 hown hg5 _
        have hb5:Below wr.heap.size wr w5:=HD.out.trans (below_none hg5)
        obtain⟨A5,k5,rfl,hk5⟩:=own_slice hown
        rw [Nat.zero_add,List.nil_append] at hown
        have HO5:=Lib.hid hown
        have HB5:=Lib.hid hb5
        have H5:=Lib.hid (HI.out.go hB hb5)
        obtain⟨_,_,_,_,_,e5⟩:=H5.out.pi.cells
        have eco:w5.cell? { block:=g,off:=k*7+5 } = some (.slice r.K kl r.c):=(hb5.cell (p:=⟨g,k*7+5,none⟩) (HI.out.om.lt g rfl).2).trans hco
        have efr:w5.frozen? { block:=g,off:=k*7+5 } = false:=own_free H5.out.om rfl _
        have es5 : ∀ u,(w5.setCell { block:=g,off:=k*7+5 } u).cell? { block:=w.heap.size,off:=5 } = some (.slice (some { block:=g,off:=0 }) mn k2):=fun u=>(World.cell?_of_block (w:=w5) (a:={ block:=w.heap.size,off:=5 }) (Below.heap_setCell _ _ _ _ (by have:=(HI.out.om.lt g rfl).1; show w.heap.size≠g; omega))).trans e5
        clear hown hb5 hg5))
    all_goals
     have hN:=HI.out.step (c':=k5) (K':=A5) hB rfl HRR.out HB5.out (by rw [hks]; exact HO5.out)
     rw [hks] at hN
     have HN:=Lib.hid hN
     clear hN c0 c1 c2 c3 c4 c5 e5 eco efr es5 hco hfr HO5 HB5 H5 HI
     go_wp2_with fail
     go_roundw
     case rel=>exact⟨k+1,_,by omega,by go_num,HN⟩
     case measure=>simp [intOf]; omega
  · obtain rfl:mn=k:=by omega
    obtain⟨c0,c1,c2,c3,c4,c5⟩:=HI.out.pi.cells
    obtain⟨d0,d1,d2,d3,d4,d5,f0,f1,f2,f3,f4,f5⟩:=HI.out.pi.room
    go_wp2_with fail
    obtain⟨W,hW,q0,q1,q2,q3,q4,q5,hWb,hWo⟩:=HI.out.pi.ret
    rw [← hW]
    refine bodyPost_ret (v:=.agg #[.string bid,.int .i64 bv,.int .i64 bn,.int .i64 bh,.slice A1 wn k1,.slice A2 mn k2]) (by simp [results,Tryz.results68,go_sem,q0,q1,q2,q3,q4,q5]) rfl ?_
    exact HI.out.post (Nat.le_refl _) hWb hWo
end Go.Proofs.YtoljpfapphoflaaGreatDoor.BxCp

set_option maxRecDepth 100000
namespace Go.Proofs.YtoljpfapphoflaaGreatDoor.BxLaw
open Go.ChangeShapes Go.WideShapes Go.ChangeAt Go.WideMaps Go.WideElems Go.RowKit Go.Deep BxD BxKit BxO
theorem own:ownKnob Tryz.prog.godebug=none:=by kernel_rfl
theorem laidOut:laidOutB Tryz.prog=true:=by kernel_rfl
theorem trodAll_kept {H:Type} {enc:TypeId × Value→H} {P:Program} (hl:laidOutB P=true) {W W':World} (hb:Below W.heap.size W W') : ∀ (ts:List TypeId) (vs:List Value) (ds:List (DataW H)) (ps:List MemPlace),
 ts.all (fun t=>P.readableRec t&&decide (t<P.types.size))=true→(∀ p∈ps,p.block<W.heap.size)→DataW.TrodAll enc P W 0 (fun _=>true) true ts vs ds ps →
 DataW.TrodAll enc P W' 0 (fun b=>decide (b<W.heap.size)) true ts vs ds ps
 | [],[],[],ps,_,_,h=>h
 | t::ts,v::vs,d::ds,ps,ht,hlt,h=>by
  obtain⟨p,q,h1,h2,rfl⟩:=h
  simp only [List.all_cons,Bool.and_eq_true,decide_eq_true_eq] at ht
  refine⟨p,q,Below.trod hl ht.1.1 ht.1.2 h1 hb (fun x hx=>hlt x (List.mem_append_left _ hx)),trodAll_kept hl hb ts vs ds q ht.2 (fun x hx=>hlt x (List.mem_append_right _ hx)) h2,rfl⟩
 | [],_::_,_,_,_,_,h=>h.elim
 | [],[],_::_,_,_,_,h=>h.elim
 | _::_,[],_,_,_,_,h=>h.elim
 | _::_,_::_,[],_,_,_,h=>h.elim
theorem law_post {H:Type} {enc:TypeId × Value→H} {f:Func} {s:ChangeSpec} {W W':World} {args:Array Value} {ds gs:List (DataW H)} {before:List MemPlace}
 (hp:f.params.toList.all (fun t=>Tryz.prog.readableRec t&&decide (t<Tryz.prog.types.size))=true) (hres:f.resultTypes = #[4]) (hvars:s.vars=[])
 (hW:DataW.Whole enc Tryz.prog f.params.toList s.vars false W args.toList ds gs before)
 (hr:(s.fn H (ds++gs)).results=[.lit (.bool true)]) (ha:(s.fn H (ds++gs)).args=ds) (hv:(s.fn H (ds++gs)).vars=[]) (hb:Below W.heap.size W W') :
 s.post enc Tryz.prog f false true false false W args (.bool true) W':=by
 have hlt : ∀ p∈before,p.block<W.heap.size:=fun p hp=>hW.lt p hp
 have hW':=hW
 obtain⟨p,q,hA,hV,rfl,hz,hn⟩:=hW
 rw [hvars] at hV
 obtain⟨rfl,rfl⟩:=trodVars_none hV
 refine⟨ds,[],p++[],[],p,[],hW', ?_, ?_, ?_, ?_,fun h=>by cases h⟩
 · rw [hr,hres]
   exact trodAll_cons_mk (shut_bool Tryz.underlying4 _) trodAll_mk0
 · rw [ha]
   exact trodAll_kept laidOut hb _ _ _ _ hp (fun x hx=>hlt x (List.mem_append_left _ hx)) hA
 · rw [hv,hvars]; rfl
 · refine World.keptBut_mono (fun x hx=>?_) (hb.frame (· ∈ p++[]))
   exact⟨hx,.inr (.inl (by simpa using hx))⟩
theorem door_met (os:Os) (args:Array Value):laidMetH Tryz.prog laid ((World.doorLaid Tryz.prog 400 os).forCall (fun _ _=>0) ⟨#[],args,[]⟩).memory :=
 laidMetH_of_parts3 (fuel:=8) (laidMet_of_run' 8 (by kernel_rfl) (by kernel_rfl)) (by kernel_rfl) (by kernel_rfl)
def Small {H:Type} (t:TypeId) (d:DataW H):Prop:=∀ k∈d.weights Tryz.prog t,k≤140737488355328
theorem weights_mem_all {H:Type} {e:TypeId} {d:DataW H} {k:Nat} (hk:k∈d.weights Tryz.prog e) : ∀ {l:List (DataW H)},d∈l→k∈DataW.weightsAll Tryz.prog e l
 | x::l,h=>by
  simp only [DataW.weightsAll,List.mem_append]
  rcases List.mem_cons.1 h with rfl | h
  · exact .inl hk
  · exact .inr (weights_mem_all hk h)
section
variable {H : Type} {enc : TypeId × Value → H} {W : World}
abbrev Rd (enc:TypeId × Value→H) (W:World) (n:Nat) (t:TypeId) (cs:List Value) (x:DataW H × List MemPlace):Prop:=DataW.trod enc Tryz.prog W 0 (fun _=>true) true n t cs=some x
theorem fields_of {t:TypeId} {fs:Array Field} {fuel:Nat} {cs:List Value} {x:DataW H × List MemPlace} (ht:Tryz.prog.underlying t=some (.struct fs)) (hone:oneCellFields Tryz.prog fs=true) (hC:Tryz.prog.cellsOf t=fs.size) (h:Rd enc W fuel t cs x) (hs:Small t x.1) :
 cs.length=fs.size∧∀ (j:Nat) (f:Field),fs[j]? = some f→∃ (n:Nat) (v:Value) (y:DataW H × List MemPlace),cs[j]? = some v∧Rd enc W n f.type [v] y∧Small f.type y.1:=by
 obtain⟨ys,n',_,hy,hlen,hyl,hf⟩:=DataW.trod_struct ht h
 refine⟨hlen.trans hC,fun j f hj=>?_⟩
 obtain⟨ho,hk⟩:=hone_of hone j f hj
 have hjl:j<fs.size:=(Array.getElem?_eq_some_iff.1 hj).1
 have hv:cs[j]? = some (cs[j]'(by omega)):=List.getElem?_eq_getElem (by omega)
 have h1:=hf j f hj
 rw [ho,hk] at h1
 have hone':(cs.drop j).take 1=[cs[j]'(by omega)]:=by
  rw [List.drop_eq_getElem_cons (by omega)]
  rfl
 rw [hone'] at h1
 have hys:ys[j]? = some (ys[j]'(by omega)):=List.getElem?_eq_getElem (by omega)
 refine⟨n',_,_,hv,h1.trans hys,fun k hk=>?_⟩
 refine hs k ?_
 rw [hy]
 show k∈DataW.weights Tryz.prog t (.agg _)
 unfold DataW.weights
 rw [ht]
 refine DataW.weights_mem_each (j:=j) (by rw [List.getElem?_map,Array.getElem?_toList,hj]; rfl) (by rw [List.getElem?_map,hys]; rfl) k hk
instance msg_inh:Inhabited Msg:=⟨⟨0,0,0,⟨#[]⟩,0,[],⟨#[]⟩⟩⟩
theorem open_row {α:Type} [Inhabited α] {C:World→Nat→Addr→α→Prop} {t e:TypeId} {sz:Nat} (ht:Tryz.prog.underlying t=some (.slice e)) (hC:Tryz.prog.cellsOf e=sz) (hsz:0<sz) (hby:1≤Tryz.prog.bytesOf e)
 (elem : ∀ (n:Nat) (cs:List Value) (x:DataW H × List MemPlace) (p:Addr),cs.length=sz→(∀ i,i<sz→W.cell? (p.add i)=cs[i]?)→Rd enc W n e cs x→Small e x.1→∃ y,C W W.heap.size p y)
 {fuel:Nat} {cs:List Value} {x:DataW H × List MemPlace} (h:Rd enc W fuel t cs x) (hs:Small t x.1) : ∃ A n c l,cs=[.slice A n c]∧n≤c∧RowAt C sz W W.heap.size A n l:=by
 rcases open_slice ht h with⟨rfl,rfl⟩ | ⟨a,len,cap,m,n,D,Pl,rfl,_,hl,hm,hmm,rfl,hi⟩
 · exact⟨none,0,0,[],rfl,Nat.le_refl _,RowAt.nil _ _ _ _ _⟩
 · simp only [if_true] at hmm
   have hlen:len≤140737488355328:=by
    have:=hs ((((List.range len).map D).length+((List.range (m-len)).map fun j=>D (len+j)).length)*Tryz.prog.bytesOf e) (by simp only [DataW.weights,ht,List.mem_cons,true_or])
    simp only [List.length_map,List.length_range] at this
    have h2:len*1≤(len+(m-len))*Tryz.prog.bytesOf e:=Nat.mul_le_mul (by omega) hby
    omega
   have he : ∀ i,i<len→∃ y,C W W.heap.size (a.add (i*sz)) y:=by
    intro i hil
    obtain⟨cs',hc,hr⟩:=hi i (by omega)
    rw [hC] at hc
    obtain⟨_,hcl,hat⟩:=World.cells?_some hc
    refine elem n cs' (D i,Pl i) _ hcl hat hr (fun k hk=>hs k ?_)
    simp only [DataW.weights,ht,List.mem_cons,List.mem_append]
    exact .inr (.inl (weights_mem_all hk (List.mem_map.2 ⟨i,List.mem_range.2 hil,rfl⟩)))
   obtain⟨Y,hY⟩:=Deep.choose_lt he
   refine⟨some a,len,cap,(List.range len).map Y,rfl,hl,by simp,hlen,fun h0=>⟨a,rfl, ?_,fun j z hz=>?_⟩⟩
   · obtain⟨cs',hc,_⟩:=hi 0 (by omega)
     rw [hC] at hc
     obtain⟨_,hcl,hat⟩:=World.cells?_some hc
     have h1:=hat 0 hsz
     rw [List.getElem?_eq_getElem (by omega)] at h1
     have:=World.block_lt_of_cell? W _ h1
     rwa [add_block,add_block] at this
   · rw [List.getElem?_map] at hz
     have hj:j<len:=by
      rcases Nat.lt_or_ge j len with h | h
      · exact h
      · rw [List.getElem?_eq_none (by simpa using h)] at hz; cases hz
     rw [List.getElem?_range hj] at hz
     cases hz
     exact hY j hj
theorem rd_int {n:Nat} {v:Value} {y:DataW H × List MemPlace} (h:Rd enc W n 3 [v] y) : ∃ z,v = .int .i64 z:=by
 obtain⟨z,e,_,_⟩:=DataW.trod_int Tryz.underlying3 h
 exact⟨z,by simpa using e⟩
theorem rd_str {n:Nat} {v:Value} {y:DataW H × List MemPlace} (h:Rd enc W n 9 [v] y) (hs:Small 9 y.1) : ∃ s,v = .string s∧s.size≤140737488355328:=by
 obtain⟨s,e,hx,_⟩:=DataW.trod_string Tryz.underlying9 h
 refine⟨s,by simpa using e, ?_⟩
 subst hx
 have:=hs s.data.toList.length (by simp [DataW.weights])
 simpa using this
theorem rd_ints {n:Nat} {v:Value} {y:DataW H × List MemPlace} (h:Rd enc W n 59 [v] y) (hs:Small 59 y.1) : ∃ A m c l,v = .slice A m c∧m≤c∧IntsAt W W.heap.size A m l:=by
 obtain⟨A,m,c,l,e,h1,h2⟩:=open_row (C:=intC) (sz:=1) Tryz.underlying59 (by kernel_rfl) (by decide) (by rw [show Tryz.prog.bytesOf 3=8 by kernel_rfl]; decide)
  (fun n cs x p hl hc hr _=>by
   obtain⟨z,e,_,_⟩:=DataW.trod_int Tryz.underlying3 hr
   subst e
   have:=hc 0 (by decide)
   exact⟨z,this⟩) h hs
 exact⟨A,m,c,l,by simpa using e,h1,h2⟩
theorem rd_strs {n:Nat} {v:Value} {y:DataW H × List MemPlace} (h:Rd enc W n 22 [v] y) (hs:Small 22 y.1) : ∃ A m c l,v = .slice A m c∧m≤c∧StrsAt W W.heap.size A m l:=by
 obtain⟨A,m,c,l,e,h1,h2⟩:=open_row (C:=strC) (sz:=1) Tryz.underlying22 (by kernel_rfl) (by decide) (by rw [show Tryz.prog.bytesOf 9=16 by kernel_rfl]; decide)
  (fun n cs x p hl hc hr hs=>by
   obtain⟨s,e,hx,_⟩:=DataW.trod_string Tryz.underlying9 hr
   subst e hx
   have:=hc 0 (by decide)
   refine⟨s,this, ?_⟩
   have:=hs s.data.toList.length (by simp [DataW.weights])
   simpa using this) h hs
 exact⟨A,m,c,l,by simpa using e,h1,h2⟩
theorem rd_msg {n:Nat} {cs:List Value} {x:DataW H × List MemPlace} (h:Rd enc W n 61 cs x) (hs:Small 61 x.1) :
 ∃ u md d fl id tx K kn kc ks,cs=[.int .i64 u,.int .i64 md,.int .i64 d,.string id,.int .i64 fl,.slice K kn kc,.string tx]∧kn≤kc∧IntsAt W W.heap.size K kn ks∧id.size≤140737488355328∧tx.size≤140737488355328:=by
 obtain⟨hl,hf⟩:=fields_of Tryz.underlying61 (by kernel_rfl) (by kernel_rfl) h hs
 obtain⟨_,v0,_,e0,r0,s0⟩:=hf 0 _ rfl
 obtain⟨_,v1,_,e1,r1,s1⟩:=hf 1 _ rfl
 obtain⟨_,v2,_,e2,r2,s2⟩:=hf 2 _ rfl
 obtain⟨_,v3,_,e3,r3,s3⟩:=hf 3 _ rfl
 obtain⟨_,v4,_,e4,r4,s4⟩:=hf 4 _ rfl
 obtain⟨_,v5,_,e5,r5,s5⟩:=hf 5 _ rfl
 obtain⟨_,v6,_,e6,r6,s6⟩:=hf 6 _ rfl
 obtain⟨u,rfl⟩:=rd_int r0
 obtain⟨md,rfl⟩:=rd_int r1
 obtain⟨d,rfl⟩:=rd_int r2
 obtain⟨id,rfl,hid⟩:=rd_str r3 s3
 obtain⟨fl,rfl⟩:=rd_int r4
 obtain⟨K,kn,kc,ks,rfl,hkc,hks⟩:=rd_ints r5 s5
 obtain⟨tx,rfl,htx⟩:=rd_str r6 s6
 refine⟨u,md,d,fl,id,tx,K,kn,kc,ks, ?_,hkc,hks,hid,htx⟩
 match cs,hl with
 | [a0,a1,a2,a3,a4,a5,a6],_ =>
  simp only [List.getElem?_cons_zero,List.getElem?_cons_succ,Option.some.injEq] at e0 e1 e2 e3 e4 e5 e6
  subst e0 e1 e2 e3 e4 e5 e6
  rfl
theorem rd_msgs {n:Nat} {v:Value} {y:DataW H × List MemPlace} (h:Rd enc W n 23 [v] y) (hs:Small 23 y.1) : ∃ A m c l,v = .slice A m c∧m≤c∧MsgsAt W W.heap.size A m l:=by
 obtain⟨A,m,c,l,e,h1,h2⟩:=open_row (C:=msgC) (sz:=7) Tryz.underlying23 (by kernel_rfl) (by decide) (by rw [show Tryz.prog.bytesOf 61=88 by kernel_rfl]; decide)
  (fun n cs x p hl hc hr hs=>by
   obtain⟨u,md,d,fl,id,tx,K,kn,kc,ks,rfl,hkc,hks,hid,htx⟩:=rd_msg hr hs
   refine⟨⟨u,md,d,id,fl,ks,tx⟩, ?_, ?_, ?_, ?_, ?_,⟨K,kc, ?_, ?_, ?_⟩, ?_,hid,htx⟩
   · have:=hc 0 (by decide); exact this
   · have:=hc 1 (by decide); exact this
   · have:=hc 2 (by decide); exact this
   · have:=hc 3 (by decide); exact this
   · have:=hc 4 (by decide); exact this
   · have:=hc 5 (by decide); rw [hks.len]; exact this
   · rw [hks.len]; exact hkc
   · rw [hks.len]; exact hks
   · have:=hc 6 (by decide); exact this) h hs
 exact⟨A,m,c,l,by simpa using e,h1,h2⟩
theorem open_box {r:Reach} {b0:Nat} {v:Value} {d:DataW H} {p:List MemPlace} (hv:Value.okWide Tryz.prog W r b0 25 v) (h:DataW.Trod enc Tryz.prog W 0 (fun _=>true) true 25 v d p) (hs:Small 25 d) :
 ∃ bid bv bn bh WA wn wc MA mn mc ws ms,v = .agg #[.string bid,.int .i64 bv,.int .i64 bn,.int .i64 bh,.slice WA wn wc,.slice MA mn mc]∧StrsAt W W.heap.size WA wn ws∧MsgsAt W W.heap.size MA mn ms∧wn≤wc∧mn≤mc∧bid.size≤140737488355328:=by
 obtain⟨cs,rfl,hsz⟩:=okWide_struct Tryz.underlying25 hv
 obtain⟨l⟩:=cs
 obtain⟨fuel,hf⟩:=h
 have hf':Rd enc W fuel 25 l (d,p):=hf
 obtain⟨hl,hf⟩:=fields_of Tryz.underlying25 (by kernel_rfl) (by kernel_rfl) hf' hs
 obtain⟨_,v0,_,e0,r0,s0⟩:=hf 0 _ rfl
 obtain⟨_,v1,_,e1,r1,s1⟩:=hf 1 _ rfl
 obtain⟨_,v2,_,e2,r2,s2⟩:=hf 2 _ rfl
 obtain⟨_,v3,_,e3,r3,s3⟩:=hf 3 _ rfl
 obtain⟨_,v4,_,e4,r4,s4⟩:=hf 4 _ rfl
 obtain⟨_,v5,_,e5,r5,s5⟩:=hf 5 _ rfl
 obtain⟨bid,rfl,hid⟩:=rd_str r0 s0
 obtain⟨bv,rfl⟩:=rd_int r1
 obtain⟨bn,rfl⟩:=rd_int r2
 obtain⟨bh,rfl⟩:=rd_int r3
 obtain⟨WA,wn,wc,ws,rfl,hwc,hws⟩:=rd_strs r4 s4
 obtain⟨MA,mn,mc,ms,rfl,hmc,hms⟩:=rd_msgs r5 s5
 refine⟨bid,bv,bn,bh,WA,wn,wc,MA,mn,mc,ws,ms, ?_,hws,hms,hwc,hmc,hid⟩
 match l,hl with
 | [a0,a1,a2,a3,a4,a5],_ =>
  simp only [List.getElem?_cons_zero,List.getElem?_cons_succ,Option.some.injEq] at e0 e1 e2 e3 e4 e5
  subst e0 e1 e2 e3 e4 e5
  rfl
theorem open_text {r:Reach} {b0:Nat} {v:Value} {d:DataW H} {p:List MemPlace} (hv:Value.okWide Tryz.prog W r b0 9 v) (h:DataW.Trod enc Tryz.prog W 0 (fun _=>true) true 9 v d p) (hs:Small 9 d) :
 ∃ s,v = .string s∧s.size≤140737488355328:=by
 obtain⟨fuel,hf⟩:=h
 obtain⟨s,rfl,_⟩:=Go.ChangeMaps.open_string Tryz.underlying9 hv ⟨fuel,hf⟩
 exact rd_str (v:=.string s) hf hs
end
end Go.Proofs.YtoljpfapphoflaaGreatDoor.BxLaw
