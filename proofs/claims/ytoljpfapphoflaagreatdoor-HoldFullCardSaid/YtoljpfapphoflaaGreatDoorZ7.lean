/-
  RdD + OlC + BxF
-/
import Derived.Test.YtoljpfapphoflaaGreatDoorZ5
import Derived.Test.YtoljpfapphoflaaGreatDoorZ6
import Derived.Test.YtoljpfapphoflaaGreatDoorK3
import Derived.Deep.RegionHeld3
import Derived.Deep.DeepCutAuto
import Derived.Test.YtoljpfapphoflaaGreatDoorZ8
import Derived.Laws.ResultCell
set_option linter.unusedVariables false
set_option linter.unusedSimpArgs false
set_option maxRecDepth 512
namespace Go.Proofs.YtoljpfapphoflaaGreatDoor.RdD
open Go.RowKit BxD BxOp RwD RwM PkA PkB PkD PkF OlD PtD PtR RpD
theorem kyF_good {k:Int} (h0:0≤k) (h1:k≤63) (rest:List UInt8) (ov:Bool):kyF (nums [k]++rest,0,ov)=(k,(rest,0,ov)):=by
 unfold kyF
 rw [nt_good h0 (m:=63) (by omega) (by decide)]
 exact congrArg (fun x=>(x,(rest,0,ov))) (show ((k.toNat:Nat):Int)=k by omega)
theorem kys_good (rest:List UInt8) (ov:Bool) : ∀ ks:List Int,(∀ k∈ks,0≤k∧k≤63)→itG kyF ks.length (nums ks++rest,0,ov)=(ks,(rest,0,ov))
 | [],_=>rfl
 | k::r,h=>by
  have hk:=h k (by simp)
  rw [List.length_cons,itG_cons,nums_cons,List.append_assoc,kyF_good hk.1 hk.2]
  simp only
  rw [kys_good rest ov r fun x hx=>h x (by simp [hx])]
theorem keys_fit {ks:List Int} {n:Nat} (h:keysB ks n=true) (hn:n≤64):(∀ k∈ks,0≤k∧k≤63)∧ks.length≤64:=by
 obtain⟨h1,h2⟩:=(keysB_iff ks n).1 h
 have hk : ∀ k∈ks,0≤k∧k≤63:=fun k hk=>by have:=h1 k hk; omega
 refine⟨hk, ?_⟩
 have h3:(ks.map Int.toNat).Nodup:=by
  rw [List.Nodup,List.pairwise_map]
  refine h2.imp_of_mem fun {a b} ha hb hab=>?_
  have:=hk a ha
  have:=hk b hb
  omega
 have h4:=len_le h3 (b:=List.range 64) fun x hx=>by
  obtain⟨a,ha,rfl⟩:=List.mem_map.1 hx
  have:=hk a ha
  rw [List.mem_range]
  omega
 simpa using h4
theorem kyR_good {ks:List Int} {n:Nat} (h:keysB ks n=true) (hn:n≤64) (rest:List UInt8) (ov:Bool):kyR (nums [((ks.length:Nat):Int)]++(nums ks++rest),0,ov)=(ks,(rest,0,ov)):=by
 obtain⟨h1,h2⟩:=keys_fit h hn
 unfold kyR
 rw [nt_good (by omega) (m:=64) (by omega) (by decide)]
 simp only
 rw [show ((ks.length:Nat):Int).toNat=ks.length from Int.toNat_natCast _,kys_good rest ov ks h1]
theorem t24 {s:ByteArray} (h:s.size≤24) (rest:List UInt8) (ov:Bool):txtS 24 (tx s++rest,0,ov)=(s,(rest,0,ov)):=txt_good (m:=24) h (by decide) rest ov
theorem t300 {s:ByteArray} (h:s.size≤300) (rest:List UInt8) (ov:Bool):txtS 300 (tx s++rest,0,ov)=(s,(rest,0,ov)):=txt_good (m:=300) h (by decide) rest ov
theorem msgR_good {n:Nat} {m:Msg} (h:mmB n m=true) (hn:n≤64) (rest:List UInt8) (ov:Bool):msgR (msb m++rest,0,ov)=(m,(rest,0,ov)):=by
 obtain⟨h1,h2,h3,h4,h5,h6,h7⟩:=PtD.mm_parts h
 unfold msgR msb flb
 rw [nums_cons,nums_cons m.mod,nums_cons m.flags]
 simp only [List.append_assoc]
 have t1:m.id.size≤24:=(atB_size h4).2
 rw [nt_good (by omega) (m:=1000000) (by omega) (by decide)]
 simp only
 rw [nt_good (by omega) (m:=1000000) (by omega) (by decide)]
 simp only
 rw [nt_good (by omega) (m:=1000000) (by omega) (by decide)]
 simp only
 rw [t24 t1]
 simp only
 rw [nt_good (by omega) (m:=1000000) (by omega) (by decide)]
 simp only
 rw [kyR_good h6 hn]
 simp only
 rw [t300 h7]
 obtain⟨u,md,d,id,fl,ks,tx⟩:=m
 have e1:((u.toNat:Nat):Int)=u:=Int.toNat_of_nonneg (by show 0≤u; have:1≤u:=h1.1; omega)
 have e2:((md.toNat:Nat):Int)=md:=Int.toNat_of_nonneg (by show 0≤md; have:1≤md:=h2.1; omega)
 have e3:((d.toNat:Nat):Int)=d:=Int.toNat_of_nonneg h3.1
 have e4:((fl.toNat:Nat):Int)=fl:=Int.toNat_of_nonneg h5.1
 simp only [e1,e2,e3,e4]
def Gd (r:Row):Prop:=∀ (rest:List UInt8) (ov:Bool),roS (rob r++rest,0,ov)=(r,(rest,0,ov))
theorem rob_word (w:ByteArray):rob (wRow w)=nums [4]++tx w:=by
 unfold rob
 rw [if_neg (show ¬ (wRow w).kind=1 from (by decide : ¬ (4:Int)=1)),if_neg (show ¬ (wRow w).kind=2 from (by decide : ¬ (4:Int)=2)),if_neg (show ¬ ((wRow w).kind=3∨(wRow w).kind=6) from (by decide : ¬ ((4:Int)=3∨(4:Int)=6))),if_pos (show (wRow w).kind=4 from rfl)]
 rfl
theorem gd_word {w:ByteArray} (h:w.size≤24):Gd (wRow w):=by
 intro rest ov
 rw [rob_word,List.append_assoc]
 unfold roS
 rw [nt_good (by decide) (m:=1000000) (by decide) (by decide)]
 rw [if_neg (show ¬ ((4:Int).toNat=1) by decide),if_neg (show ¬ ((4:Int).toNat=2) by decide),if_neg (show ¬ ((4:Int).toNat=3∨(4:Int).toNat=6) by decide),if_pos (show (4:Int).toNat=4 by decide),t24 h]
 rfl
theorem rob_msg (m:Msg):rob ⟨1,0,0,m,emT⟩=nums [1]++msb m:=by
 unfold rob
 rw [if_pos rfl]
theorem gd_msg {n:Nat} {m:Msg} (h:mmB n m=true) (hn:n≤64):Gd ⟨1,0,0,m,emT⟩:=by
 intro rest ov
 rw [rob_msg,List.append_assoc]
 unfold roS
 rw [nt_good (by decide) (m:=1000000) (by decide) (by decide)]
 rw [if_pos (show (1:Int).toNat=1 by decide),msgR_good h hn]
 rfl
theorem rob_ne (r:Row):(rob r).length≠0:=by
 unfold rob
 rw [List.length_append]
 have:0<(nums [r.kind]).length:=by
  rw [nums_one]
  exact Lib.uvarint_pos _
 omega
theorem pr_all : ∀ (l acc:List Row) (f:Nat),(∀ r∈l,Gd r)→acc.length+l.length≤200→l.length<f→prR f acc (l.flatMap rob,0,false)=(acc++l,0)
 | [],acc,f+1,_,_,_=>by
  unfold prR
  rw [if_pos (show (List.flatMap rob []).length=0 from rfl),List.append_nil]
 | r::l,acc,f+1,h,hl,hf=>by
  rw [List.length_cons] at hl hf
  unfold prR
  rw [List.flatMap_cons,if_neg (by show (rob r++_).length≠0; rw [List.length_append]; have:=rob_ne r; omega),if_neg (by omega),h r (by simp) _ false]
  simp only
  rw [if_pos (show firstS (l.flatMap rob,0,false)=0 from rfl),pr_all l (acc++[r]) f (fun x hx=>h x (by simp [hx])) (by rw [List.length_append]; simp; omega) (by omega),List.append_assoc]
  rfl
theorem back_all {l:List Row} (h : ∀ r∈l,Gd r) (hl:l.length≤200):parseR (bytesR l)=(l,0):=by
 have hb:l.all backR=true:=by
  rw [List.all_eq_true]
  intro r hr
  unfold backR
  refine decide_eq_true ?_
  have:=pr_all [r] [] 202 (fun x hx=>by rw [List.mem_singleton] at hx; rw [hx]; exact h r hr) (by simp) (by simp)
  unfold parseR
  simpa using this
 unfold bytesR
 rw [if_neg (by omega),if_pos hb]
 have:=pr_all l [] 202 h (by simpa using hl) (by omega)
 unfold parseR
 simpa using this
end Go.Proofs.YtoljpfapphoflaaGreatDoor.RdD

set_option maxHeartbeats 4000000
set_option maxRecDepth 100000
namespace Go.Proofs.YtoljpfapphoflaaGreatDoor.OlC
open PtK
open Go.RowKit BxD PkKit PkA PkB PkC PkR OlD OlA OlB OlOm
open OlR (mkB)
open BxKit (RowAt IntsAt StrsAt MsgsAt)
section
variable {w : World} {P : Nat} {u md d fl : Int} {id tx : ByteArray} {K : Option Addr} {kn kc : Nat}
end
theorem fxs_one (a:Int):fxs [a]=fx (mx a):=by simp [fxs]
theorem ch_len (cg:Bool) (x:Int):(ch cg x).length=if cg then 4 else 0:=by cases cg <;> rfl
theorem fxs_two (a b:Int):fxs [a,b]=fx (mx a)++fx (mx b):=by simp [fxs]
theorem em_len (cg:Bool) (m:Msg):(em cg m).length=17+(ch cg m.mod).length+m.text.size:=by
 unfold em
 simp only [List.length_append,fx_len,List.length_singleton,Array.length_toList]
 have:m.text.data.size=m.text.size:=rfl
 omega
theorem ch_le (cg:Bool) (x:Int):(ch cg x).length≤4:=by rw [ch_len]; cases cg <;> decide
def FBk (w:World) (F:Nat) (cg:Bool):Prop:=w.heap[F]? = some (.cells #[.string (mkB cg),.bool cg] 189 (0,0))
theorem FBk.cells {w:World} {F:Nat} {cg:Bool} (h:FBk w F cg):w.cell? { block:=F,off:=0 } = some (.string (mkB cg))∧w.cell? { block:=F,off:=1 } = some (.bool cg):=by
 have c:=fun o=>cell_of_row w F o _ _ _ h
 exact⟨(c 0).trans rfl,(c 1).trans rfl⟩
theorem appendChange_om {cg:Bool} {n base:Nat} {w:World} {v:Value} {l:List UInt8} {M:ByteArray} (hO:Ow w base v n (by_ l)) (x:Int) (hbs:base≤w.heap.size) (hn:n+100≤140737488355328) :
 Calls Tryz.prog 193 #[.agg #[.string M,.bool cg],v,.int .i64 x] w fun e w'=>∃ v',e = .returned v'∧OM w v w' (n+(ch cg x).length) v' (l++ch cg x):=by
 have H0:=Lib.hid (OM.alloc (OM.start hO) (.cells #[.string M,.bool cg] 189))
 have hw1:=heap_alloc_new w (.cells #[.string M,.bool cg] 189)
 have HW:=Lib.hid hw1
 clear hw1
 cases cg with
 | false =>
  clear hO
  have q0:(w.alloc (.cells #[.string M,.bool false] 189)).cell? { block:=w.heap.size,off:=1 } = some (.bool false):=(cell_of_row _ w.heap.size 1 _ _ _ HW.out).trans rfl
  go_enter Tryz.func193,Tryz.ntmps193
  go_wp2_with fail
  go_ret
  refine⟨_,rfl, ?_⟩
  have:=H0.out
  simpa [ch] using this
 | true =>
  clear hO
  have q0:(w.alloc (.cells #[.string M,.bool true] 189)).cell? { block:=w.heap.size,off:=1 } = some (.bool true):=(cell_of_row _ w.heap.size 1 _ _ _ HW.out).trans rfl
  go_enter Tryz.func193,Tryz.ntmps193
  go_upto_region 1 with fail
  generalize (World.alloc w _)=w1 at H0 q0 HW ⊢
  have KA:=Lib.hid (appendFixed_any (base:=0) (cp:=1) (N:=n+4) ((OM.alloc H0.out (.cells #[.int .i64 x] 3)).own) (ints_one w1 x) (by simp) (fun ad e=>by injection e with e; subst e; exact own_none H0.out.own) (by omega) rfl)
  go_wp2_with (go_at_call 194; go_loud (
   refine KA.out.mono ?_
   rintro e w2 ⟨v2,rfl,g2⟩
   have O2:=Lib.hid (OM.trans (OM.alloc H0.out _) g2)
   clear g2 q0))
  go_ret
  refine⟨v2,rfl, ?_⟩
  have:=O2.out
  rw [fxs_one] at this
  exact this
theorem appendMsg_any {cg:Bool} {n B base:Nat} {w:World} {v:Value} {l:List UInt8} {u md d fl:Int} {id tx:ByteArray} {K:Option Addr} {kn kc:Nat} {ks:List Int} (hO:Ow w base v n (by_ l)) (hz:IntsAt w B K kn ks) (hB:B≤base) (hbs:base≤w.heap.size) (hp : ∀ k∈ks,0≤k) (hfl:0≤fl∧fl≤255) (htx:tx.size≤300) (hn:n≤1099511627776) :
 Calls Tryz.prog 195 #[.agg #[.string (mkB cg),.bool cg],v,.agg #[.int .i64 u,.int .i64 md,.int .i64 d,.string id,.int .i64 fl,.slice K kn kc,.string tx]] w fun e w'=>∃ v',e = .returned v'∧OO base w w' (n+(em cg ⟨u,md,d,id,fl,ks,tx⟩).length) v' (l++em cg ⟨u,md,d,id,fl,ks,tx⟩):=by
 obtain⟨oM,hoM⟩ : ∃ oM,oM=Obj.cells #[.int .i64 u,.int .i64 md,.int .i64 d,.string id,.int .i64 fl,.slice K kn kc,.string tx] 61 (0,0):=⟨_,rfl⟩
 have O0:=Lib.hid (OM.alloc (OM.alloc (OM.start hO) (.cells #[.string (mkB cg),.bool cg] 189)) oM)
 have F0:=Lib.hid (show FBk ((w.alloc (.cells #[.string (mkB cg),.bool cg] 189)).alloc oM) w.heap.size cg from (heap_alloc_old _ _ (by simp)).trans (heap_alloc_new w _))
 have M0:=Lib.hid (show MBk ((w.alloc (.cells #[.string (mkB cg),.bool cg] 189)).alloc oM) (w.heap.size+1) u md d id fl K kn kc tx by
  have:=heap_alloc_new (w.alloc (.cells #[.string (mkB cg),.bool cg] 189)) oM
  rw [show (w.alloc (.cells #[.string (mkB cg),.bool cg] 189)).heap.size=w.heap.size+1 by simp,hoM] at this
  rw [hoM]
  exact this)
 have HZ:=Lib.hid (IntsAt.below hz (((Below.refl base w).alloc hbs (.cells #[.string (mkB cg),.bool cg] 189)).alloc (by simp; omega) oM) hB)
 have hP:=own_none hO
 have hP2:v.ownBlock≠some (w.heap.size+1):=fun e=>by have:=(hO.lt _ e).2; omega
 have HP:=Lib.hid hp
 have hs0:w.heap.size+2≤((w.alloc (.cells #[.string (mkB cg),.bool cg] 189)).alloc oM).heap.size:=by simp
 have HOB:=Lib.hid (fun g e=>(hO.lt g e).1)
 obtain⟨A,c0,rfl,hc0⟩:=hO.slice
 subst hoM
 clear hO hz hp
 go_enter Tryz.func195,Tryz.ntmps195
 go_upto_region 1 with fail
 obtain⟨P,hPe⟩ : ∃ P,P=w.heap.size:=⟨_,rfl⟩
 rw [← hPe] at F0 M0 hs0 hP hP2 ⊢
 have hP1:base≤P:=by omega
 have hPw:P≤w.heap.size:=by omega
 clear hPe
 generalize (World.alloc (World.alloc w _) _)=w1 at O0 F0 M0 HZ hs0 ⊢
 obtain⟨m0,m1,m2,m3,m4,m5,m6⟩:=M0.out.cells
 obtain⟨f0,f1⟩:=F0.out.cells
 have O1:=Lib.hid (OM.start O0.out.own)
 have HM:=Lib.hid (fun (wr:World) (g:w1.grownBy wr (Value.slice A n c0).ownBlock)=>(M0.out.keep (g.block (P+1) (by omega) (fun e=>hP2 e.symm))).cells)
 have HF:=Lib.hid (fun (wr:World) (g:w1.grownBy wr (Value.slice A n c0).ownBlock)=>FBk.cells (cg:=cg) (w:=wr) (F:=P) ((g.block P (by omega) (fun e=>hP e.symm)).trans F0.out))
 have O1d:=Lib.hid (OM.go O1.out ((Below.refl w1.heap.size w1).drew))
 have KA:=Lib.hid (appendFixed_any (base:=0) (cp:=1) (N:=n+4) ((OM.alloc O1d.out (.cells #[.int .i64 u] 3)).own) (ints_one w1.drew u) (by simp) (fun ad e=>by injection e with e; subst e; exact own_none O1d.out.own) (by omega) rfl)
 obtain⟨k,hk⟩ : ∃ k,k=(ch cg md).length:=⟨_,rfl⟩
 have hk4:k≤4:=by rw [hk]; exact ch_le cg md
 have HK:=Lib.hid hk
 clear hk
 go_region_held3 (fun wr=>wr.cell? { block:=P,off:=0 } = some (.string (mkB cg))∧wr.cell? { block:=P,off:=1 } = some (.bool cg)∧wr.cell? { block:=P+1,off:=0 } = some (.int .i64 u)∧wr.cell? { block:=P+1,off:=1 } = some (.int .i64 md)) (first | exact⟨f0,f1,m0,m1⟩ | exact⟨(HF.out _ O2.out.fr).1,(HF.out _ O2.out.fr).2,(HM.out _ O2.out.fr).1,(HM.out _ O2.out.fr).2.1⟩ | exact⟨(HF.out _ O3.out.fr).1,(HF.out _ O3.out.fr).2,(HM.out _ O3.out.fr).1,(HM.out _ O3.out.fr).2.1⟩ | go_keep) (first
  | (go_at_call 194
     refine KA.out.mono ?_
     rintro e w2 ⟨v2,rfl,g2⟩
     obtain⟨A2,c2,rfl,hc2⟩:=g2.own.slice
     have O2:=Lib.hid (OM.trans (OM.alloc O1d.out _) g2)
     have KC:=appendChange_om (cg:=cg) (M:=mkB cg) (base:=0) O2.out.own md (Nat.zero_le _) (by omega)
     rw [← HK.out] at KC
     have KC:=Lib.hid KC
     clear g2
     dsimp only)
  | (go_at_call 193
     refine KC.out.mono ?_
     rintro e w3 ⟨v3,rfl,g3⟩
     obtain⟨A3,c3,rfl,hc3⟩:=g3.own.slice
     have O3:=Lib.hid (OM.trans O2.out g3)
     clear g3
     dsimp only))
 rename_i hHeld
 clear hHeld m0 m1 m2 m3 m4 m5 m6 f0 f1 HF
 obtain⟨m0,m1,m2,m3,m4,m5,m6⟩:=HM.out w3 O3.out.fr
 have KA:=Lib.hid (appendFixed_any (base:=0) (cp:=1) (N:=n+4+k+4) ((OM.alloc O3.out (.cells #[.int .i64 d] 3)).own) (ints_one w3 d) (by simp) (fun ad e=>by injection e with e; subst e; exact own_none O3.out.own) (by omega) rfl)
 go_upto_region 3 with (go_at_call 194; go_loud (
  refine KA.out.mono ?_
  rintro e w4 ⟨v4,rfl,g4⟩
  obtain⟨A4,c4,rfl,hc4⟩:=g4.own.slice
  have O4:=Lib.hid (OM.trans (OM.alloc O3.out _) g4)
  clear g4 m0 m1 m2 m3 m4 m5 m6))
 obtain⟨m0,m1,m2,m3,m4,m5,m6⟩:=HM.out w4 O4.out.fr
 go_upto_region 4 with (at_builtin; go_loud (
  refine wpList_ow rfl _ _ rfl rfl rfl (OM.alloc O4.out _).own (bytesAt_new w4 [fl.toNat.toUInt8] rfl (Nat.lt_succ_self _) rfl (by_int (x:=fl) (by omega) (by omega)).symm) (by omega) (Nat.zero_le _) (by decide) ?_
  intro v5 w5 hown5 hg5 hat5
  obtain⟨A5,c5,rfl,hc5⟩:=hown5.slice
  have O5:=Lib.hid ((OM.alloc O4.out _).app (m:=n+4+k+4+1) (l':=l++fxs [u]++ch cg md++fxs [d]++[fl.toNat.toUInt8]) (by rw [by_append]; exact hown5) hg5 hat5)
  clear hown5 hg5 hat5 m0 m1 m2 m3 m4 m5 m6))
 obtain⟨m0,m1,m2,m3,m4,m5,m6⟩:=HM.out w5 O5.out.fr
 have hs5:=O5.out.fr.size
 have hb5:=O5.out.below HOB.out (show base≤w1.heap.size by omega)
 have KB:=Lib.hid (bitsOf_any (cp:=kc) (IntsAt.below HZ.out (BxKit.below_drewN hb5 1) hB) HP.out)
 obtain⟨M,hM⟩ : ∃ M,M=maskN ks:=⟨_,rfl⟩
 rw [← hM] at KB
 have HMM:=Lib.hid hM
 have O5d:=Lib.hid (OM.go O5.out ((Below.refl w5.heap.size w5).drew))
 have KC:=Lib.hid (appendFixed_any (base:=0) (cp:=2) (N:=n+4+k+4+1+8) (O5d.out.own.kept ((Below.refl _ _).alloc (Nat.le_refl _) (.cells #[.int .i64 (M:Nat),.int .i64 (tx.size:Nat)] 3))) (ints_two w5.drew (M:Nat) (tx.size:Nat)) (by simp) (fun ad e=>by injection e with e; subst e; exact own_none O5d.out.own) (by omega) (by omega))
 clear hM
 go_region_held3 (fun wr=>wr.cell? { block:=P+1,off:=5 } = some (.slice K kn kc)∧wr.cell? { block:=P+1,off:=6 } = some (.string tx)) (first | exact⟨m5,m6⟩ | exact⟨(HM.out _ O6.out.fr).2.2.2.2.2.1,(HM.out _ O6.out.fr).2.2.2.2.2.2⟩ | go_keep) (first
  | (go_at_call 215
     refine KB.out.mono ?_
     rintro e w6 ⟨rfl,rfl⟩
     dsimp only)
  | (go_at_call 194
     refine KC.out.mono ?_
     rintro e w6 ⟨v6,rfl,g6⟩
     obtain⟨A6,c6,rfl,hc6⟩:=g6.own.slice
     have O6:=Lib.hid (OM.trans (OM.alloc O5d.out _) g6)
     clear g6
     dsimp only))
 rename_i hHeld
 clear hHeld m0 m1 m2 m3 m4 m5 m6 hb5
 obtain⟨m0,m1,m2,m3,m4,m5,m6⟩:=HM.out w6 O6.out.fr
 have hs6:=O6.out.fr.size
 have hb1:base≤w1.heap.size:=by omega
 have B6:=Lib.hid (O6.out.oo HOB.out hb1)
 go_wp2_with (at_builtin; go_loud (
  refine wpList_ows rfl _ _ rfl rfl rfl B6.out.own (by omega) (Nat.le_trans hb1 hs6) ?_
  intro v7 w7 hown7 hg7))
 go_ret
 have hb01:Below base w w1:=O0.out.below HOB.out hbs
 have ob:=OO.app (OO.trans ⟨O1.out.own.up HOB.out,hb01,hbs⟩ B6.out) (m:=n+(em cg ⟨u,md,d,id,fl,ks,tx⟩).length) (l':=l++em cg ⟨u,md,d,id,fl,ks,tx⟩) (by
  have e:l++em cg ⟨u,md,d,id,fl,ks,tx⟩=(l++fxs [u]++ch cg md++fxs [d]++[fl.toNat.toUInt8]++fxs [(M:Int),(tx.size:Int)])++tx.data.toList:=by
   unfold em
   rw [fxs_two,fxs_one,fxs_one,mx_nat,mx_nat,HMM.out,Nat.mod_eq_of_lt (show fl.toNat<256 by omega)]
   simp only [List.append_assoc]
  rw [e,em_len,by_append,← strCells_by]
  have e2:n+4+k+4+1+8+tx.size=n+(17+(ch cg md).length+tx.size):=by rw [← HK.out]; omega
  show Ow w7 base v7 (n+(17+(ch cg md).length+tx.size)) _
  rw [← e2]
  exact hown7) hg7
 exact⟨v7,rfl,ob⟩
end Go.Proofs.YtoljpfapphoflaaGreatDoor.OlC

set_option maxHeartbeats 1000000
set_option maxRecDepth 512
namespace Go.Proofs.YtoljpfapphoflaaGreatDoor.BxF
open Go.RowKit BxD BxKit BxA
theorem two_below (w:World) (o1 o2:Obj):Below w.heap.size w ((w.alloc o1).alloc o2):=((Below.refl _ _).alloc (Nat.le_refl _) _).alloc (by simp) _
theorem find_next {ms:List Msg} {k:Nat} {m:Msg} {u:Int} (h : ∀ i x,i<k→ms[i]? = some x→x.uid≠u) (hm:ms[k]? = some m) (hne:m.uid≠u) : ∀ i x,i<k+1→ms[i]? = some x→x.uid≠u:=by
 intro i x hi hx
 by_cases he:i=k
 · subst he
   rw [hm] at hx
   injection hx with hx
   rw [← hx]; exact hne
 · exact h i x (by omega) hx
theorem find_end {ms:List Msg} {k:Nat} {u:Int} (h : ∀ i x,i<k→ms[i]? = some x→x.uid≠u) (hk:ms.length≤k):findI ms u = -1 :=
 findI_none fun x hx=>by
  obtain⟨i,hi,e⟩:=List.mem_iff_getElem.1 hx
  exact h i x (by omega) (by rw [← e]; exact List.getElem?_eq_getElem hi)
theorem isUid_any {u md d fl uid:Int} {id tx:ByteArray} {K:Option Addr} {kn kc b:Nat} {w:World} (hc:w.cell? { block:=b,off:=0 } = some (.int .i64 uid)) (hb:b<w.heap.size) :
 Calls Tryz.prog 177 #[.agg #[.int .i64 u,.int .i64 md,.int .i64 d,.string id,.int .i64 fl,.slice K kn kc,.string tx],.pointer (some { block:=b,off:=0 })] w fun e w'=>e = .returned (.bool (u==uid))∧Below w.heap.size w w':=by
 have hz:(w.alloc (.cells #[.int .i64 u,.int .i64 md,.int .i64 d,.string id,.int .i64 fl,.slice K kn kc,.string tx] 61)).cell? { block:=b,off:=0 } = some (.int .i64 uid):=by
  rw [((Below.refl w.heap.size w).alloc (Nat.le_refl _) _).cell (p:=⟨b,0,none⟩) hb]; exact hc
 clear hc
 go_enter Tryz.func177,Tryz.ntmps177
 go_wp2_with fail
 go_ret
 exact⟨rfl,(Below.refl _ _).alloc (Nat.le_refl _) _⟩
theorem indexMsg_any {uid:Int} {A:Option Addr} {n cp b B0:Nat} {ms:List Msg} {w:World} (hm:MsgsAt w B0 A n ms) (hB:B0≤w.heap.size) (hc:w.cell? { block:=b,off:=0 } = some (.int .i64 uid)) (hb:b<w.heap.size) :
 Calls Tryz.prog 176 #[.slice A n cp,.func (.func 177) #[] #[.pointer (some { block:=b,off:=0 })]] w fun e w'=>e = .returned (.int .i64 (findI ms uid))∧Below w.heap.size w w':=by
 have HM:=Lib.hid hm
 have hn:=hm.max
 have HB:=Lib.hid hc
 clear hm hc
 go_enter Tryz.func176,Tryz.ntmps176
 go_wp2_with fail
 go_loopw [8] (fun s8 wr=>∃ k:Nat,k≤n∧s8 = .int .i64 k∧Hid (∀ i x,i<k→ms[i]? = some x→x.uid≠uid)∧Hid (Below w.heap.size w wr)) (fun s8 _=>n-(intOf s8).toNat)
 case atStart=>exact⟨0,Nat.zero_le _,rfl,fun i _ hi=>absurd hi (Nat.not_lt_zero _),Below.refl _ _⟩
 case round =>
  obtain⟨k,hk,rfl,HT,HA⟩:=hrel
  by_cases hlt:k<n
  · obtain⟨ad,u,md,d,id,fl,ks,tx,K,kn,kc,rfl,hab,e1,c0,c1,c2,c3,c4,c5,c6,_,_,_,_⟩:=MsgsAt.sp HM.out HA.out hB hlt
    have g1:(0:Int)≤(k:Int):=by omega
    have g2:(k:Int)<(n:Int):=by omega
    have C:=isUid_any (u:=u) (md:=md) (d:=d) (fl:=fl) (id:=id) (tx:=tx) (K:=K) (kn:=kn) (kc:=kc) (w:=wr) ((HA.out.cell (p:=⟨b,0,none⟩) hb).trans HB.out) (Nat.lt_of_lt_of_le hb HA.out.size)
    by_cases hq:u=uid
    · subst hq
      rw [beq_self_eq_true] at C
      have HF:=Lib.hid (findI_hit HT.out e1 rfl)
      have K1:=Lib.hid C
      clear e1 C
      go_wp2_with (go_at_call 177; refine K1.out.mono ?_; rintro e w1 ⟨rfl,hb1⟩)
      go_ret
      exact⟨ret_int HF.out.symm,HA.out.trans (hb1.mono HA.out.size)⟩
    · have HT2:=Lib.hid (find_next HT.out e1 hq)
      rw [show (u==uid)=false by simpa using hq] at C
      have K1:=Lib.hid C
      clear e1 hq C
      go_wp2_with (go_at_call 177; refine K1.out.mono ?_; rintro e w1 ⟨rfl,hb1⟩)
      have HD:=Lib.hid (HA.out.trans (hb1.mono HA.out.size))
      go_roundw
      case rel=>exact⟨k+1,by omega,by go_num,HT2,HD⟩
      case measure=>simp [intOf]; omega
  · obtain rfl:n=k:=by omega
    have HF:=Lib.hid (find_end HT.out (by have:=HM.out.len; omega))
    go_wp2_with fail
    go_ret
    exact⟨ret_int HF.out.symm,HA.out⟩
theorem find_any {bid:ByteArray} {bv bn bh uid:Int} {WA MA:Option Addr} {wn wc mn mc B0:Nat} {ms:List Msg} {w:World} (hm:MsgsAt w B0 MA mn ms) (hB:B0≤w.heap.size) :
 Calls Tryz.prog 143 #[.agg #[.string bid,.int .i64 bv,.int .i64 bn,.int .i64 bh,.slice WA wn wc,.slice MA mn mc],.int .i64 uid] w fun e w'=>e = .returned (.int .i64 (findI ms uid))∧Below w.heap.size w w':=by
 have C:=fun o:Obj=>indexMsg_any (cp:=mc) (uid:=uid) (b:=w.heap.size+1) (w:=(w.alloc o).alloc (.cells #[.int .i64 uid] 3)) (MsgsAt.below hm (two_below w o _) hB) (by simp; omega) (by simp) (by simp)
 have K:=Lib.hid C
 clear C hm
 go_enter Tryz.func143,Tryz.ntmps143
 go_wp2_with (go_at_call 176; refine (K.out _).mono ?_; rintro e w1 ⟨rfl,hb1⟩)
 go_ret
 exact⟨rfl,(two_below w _ _).trans (hb1.mono (by simp; omega))⟩
end Go.Proofs.YtoljpfapphoflaaGreatDoor.BxF
