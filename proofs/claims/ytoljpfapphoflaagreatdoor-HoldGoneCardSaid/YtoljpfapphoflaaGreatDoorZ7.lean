/-
  RwRo + OlC + BxF
-/
import Derived.Test.YtoljpfapphoflaaGreatDoorL3
import Derived.Test.YtoljpfapphoflaaGreatDoorN4
import Derived.Deep.DeepCutAuto
import Derived.Test.YtoljpfapphoflaaGreatDoorZ5
import Derived.Test.YtoljpfapphoflaaGreatDoorK3
import Derived.Deep.RegionHeld3
import Derived.Test.YtoljpfapphoflaaGreatDoorBxA
import Derived.Laws.ResultCell
set_option linter.unusedVariables false
set_option linter.unusedSimpArgs false
set_option maxRecDepth 512
namespace Go.Proofs.YtoljpfapphoflaaGreatDoor.RwRo
open Go.RowKit BxD BxKit BxA BxR BxC RwD RwM RwF RwKit
theorem elR:El 26 63 (.agg #[.int .i64 0,.int .i64 0,.int .i64 0,.int .i64 0,.int .i64 0,.int .i64 0,.string ⟨#[]⟩,.int .i64 0,.slice none 0 0,.string ⟨#[]⟩,.string ⟨#[]⟩]) 11 128:=⟨Tryz.underlying26,by kernel_rfl,rfl,by decide⟩
structure RRaw where
 r:Row
 K:Option Addr
 c:Nat
def cell11 (q:RRaw):List Value:=[.int .i64 q.r.kind,.int .i64 q.r.uid,.int .i64 q.r.mod,.int .i64 q.r.msg.uid,.int .i64 q.r.msg.mod,.int .i64 q.r.msg.date,.string q.r.msg.id,.int .i64 q.r.msg.flags,.slice q.K q.r.msg.keys.length q.c,.string q.r.msg.text,.string q.r.text]
def rc (l:List RRaw):List Value:=l.flatMap cell11
theorem rc_length : ∀ l:List RRaw,(rc l).length=l.length*11
 | []=>rfl
 | r::l=>by
  have:=rc_length l;unfold rc at this ⊢;rw [List.flatMap_cons,List.length_append,this,List.length_cons];simp [cell11]; omega
theorem rc_append (a b:List RRaw):rc (a++b)=rc a++rc b:=by unfold rc; rw [List.flatMap_append]
theorem rc_snoc (a:List RRaw) (q:RRaw):rc (a++[q])=rc a++cell11 q:=by rw [rc_append]; unfold rc; simp
theorem rc_get : ∀ (l:List RRaw) (i f:Nat) (r:RRaw),l[i]? = some r->f<11->(rc l)[i*11+f]? = (cell11 r)[f]?
 | r0::l,0,f,r,h,hf=>by
  obtain rfl:r0=r:=by simpa using h
  unfold rc;rw [List.flatMap_cons,Nat.zero_mul,Nat.zero_add,List.getElem?_append_left (by simpa [cell11] using hf)]
 | r0::l,i+1,f,r,h,hf=>by
  have:=rc_get l i f r (by simpa using h) hf;unfold rc at this ⊢;rw [List.flatMap_cons,List.getElem?_append_right (by simp [cell11]; omega),<- this]
  congr 1
  simp [cell11]; omega
def RKeys (w:World) (B:Nat) (l:List RRaw):Prop:=∀ q∈l,IntsAt w B q.K q.r.msg.keys.length q.r.msg.keys/\q.r.msg.keys.length<=q.c/\q.r.msg.id.size<=140737488355328/\q.r.msg.text.size<=140737488355328/\q.r.text.size<=140737488355328
theorem rowsAt_own {w:World} {base n B cp:Nat} {A:Option Addr} {rs:List RRaw} (h:w.ownsRow base 63 11 (.slice A n cp) n (rc rs)) (hB : ∀ g,(Value.slice A n cp).ownBlock=some g->g<B) (hn:n<=140737488355328) (hk:RKeys w B rs):RowsAt w B A n (rs.map RRaw.r):=by
 have hl:=h.1;rw [rc_length] at hl;refine⟨by rw [List.length_map]; omega,hn,fun hn=>?_⟩;obtain⟨g,cap,hv,_,hlt⟩:=own_form h hn;have hA:A=some ⟨g,0,none⟩:=by injection hv
 subst hA;refine⟨_,rfl,hB g rfl,fun j m hj=>?_⟩;rw [List.getElem?_map] at hj;cases hr:rs[j]? with
 | none=>rw [hr] at hj; cases hj
 | some r =>
  rw [hr] at hj;obtain rfl:r.r=m:=Option.some.inj hj;have hc : ∀ f,f<11->∀ u,(cell11 r)[f]? = some u->w.cell? ⟨g,j*11+f,none⟩=some u:=fun f hf u hu=>by
   have:=h.cells (g:=g) rfl (j*11+f) u (by rw [rc_get rs j f r hr hf,hu])
   rwa [add_new] at this
  obtain⟨k1,k2,k3,k4,k5⟩:=hk r (List.mem_of_getElem? hr);rw [add_new];exact⟨hc 0 (by decide) _ rfl,hc 1 (by decide) _ rfl,hc 2 (by decide) _ rfl,hc 3 (by decide) _ rfl,hc 4 (by decide) _ rfl,hc 5 (by decide) _ rfl,hc 6 (by decide) _ rfl,hc 7 (by decide) _ rfl,⟨r.K,r.c,hc 8 (by decide) _ rfl,k2,k1⟩,hc 9 (by decide) _ rfl,hc 10 (by decide) _ rfl,k3,k4,k5⟩
end Go.Proofs.YtoljpfapphoflaaGreatDoor.RwRo

set_option maxHeartbeats 4000000
set_option maxRecDepth 100000
namespace Go.Proofs.YtoljpfapphoflaaGreatDoor.OlC
open PtK
open Go.RowKit BxD PkKit PkA PkB PkC PkR OlD OlA OlB OlOm
open OlR (mkB)
open BxKit (RowAt IntsAt StrsAt MsgsAt)
section
variable {w : World} {P : Nat} {u md d fl : Int} {id tx : ByteArray} {K : Option Addr} {kn kc : Nat}
end
theorem fxs_one (a:Int):fxs [a]=fx (mx a):=by simp [fxs]
theorem ch_len (cg:Bool) (x:Int):(ch cg x).length=if cg then 4 else 0:=by cases cg <;> rfl
theorem fxs_two (a b:Int):fxs [a,b]=fx (mx a)++fx (mx b):=by simp [fxs]
theorem em_len (cg:Bool) (m:Msg):(em cg m).length=17+(ch cg m.mod).length+m.text.size:=by
 unfold em;simp only [List.length_append,fx_len,List.length_singleton,Array.length_toList];have:m.text.data.size=m.text.size:=rfl;omega
theorem ch_le (cg:Bool) (x:Int):(ch cg x).length<=4:=by rw [ch_len]; cases cg <;> decide
def FBk (w:World) (F:Nat) (cg:Bool):Prop:=w.heap[F]? = some (.cells #[.string (mkB cg),.bool cg] 189 (0,0))
theorem FBk.cells {w:World} {F:Nat} {cg:Bool} (h:FBk w F cg):w.cell? ⟨F,0,none⟩ = some (.string (mkB cg))/\w.cell? ⟨F,1,none⟩ = some (.bool cg):=by
 have c:=fun o=>cell_of_row w F o _ _ _ h;exact⟨(c 0).trans rfl,(c 1).trans rfl⟩
theorem appendChange_om {cg:Bool} {n base:Nat} {w:World} {v:Value} {l:List UInt8} {M:ByteArray} (hO:Ow w base v n (by_ l)) (x:Int) (hbs:base<=w.heap.size) (hn:n+100<=140737488355328) :
 Calls Tryz.prog 193 #[.agg #[.string M,.bool cg],v,.int .i64 x] w fun e w'=>∃ v',e = .returned v'/\OM w v w' (n+(ch cg x).length) v' (l++ch cg x):=by
 have H0:=H_ (OM.alloc (OM.start hO) (.cells #[.string M,.bool cg] 189));have hw1:=heap_alloc_new w (.cells #[.string M,.bool cg] 189);have HW:=H_ hw1;clear hw1;cases cg with
 | false =>
  clear hO;have q0:(w.alloc (.cells #[.string M,.bool false] 189)).cell? ⟨w.heap.size,1,none⟩ = some (.bool false):=(cell_of_row _ w.heap.size 1 _ _ _ HW.out).trans rfl;go_enter Tryz.func193,Tryz.ntmps193;go_wp2_with fail
  go_ret;refine⟨_,rfl, ?_⟩;have:=H0.out;simpa [ch] using this
 | true =>
  clear hO;have q0:(w.alloc (.cells #[.string M,.bool true] 189)).cell? ⟨w.heap.size,1,none⟩ = some (.bool true):=(cell_of_row _ w.heap.size 1 _ _ _ HW.out).trans rfl;go_enter Tryz.func193,Tryz.ntmps193;go_upto_region 1 with fail
  generalize (World.alloc w _)=w1 at H0 q0 HW ⊢;have KA:=H_ (appendFixed_any (base:=0) (cp:=1) (N:=n+4) ((OM.alloc H0.out (.cells #[.int .i64 x] 3)).own) (ints_one w1 x) (by simp) (fun ad e=>by injection e with e; subst e; exact own_none H0.out.own) (by omega) rfl);go_wp2_with (go_at_call 194; go_loud (
   refine KA.out.mono ?_;rintro e w2 ⟨v2,rfl,g2⟩;have O2:=H_ (OM.trans (OM.alloc H0.out _) g2);clear g2 q0))
  go_ret;refine⟨v2,rfl, ?_⟩;have:=O2.out;rw [fxs_one] at this;exact this
theorem appendMsg_any {cg:Bool} {n B base:Nat} {w:World} {v:Value} {l:List UInt8} {u md d fl:Int} {id tx:ByteArray} {K:Option Addr} {kn kc:Nat} {ks:List Int} (hO:Ow w base v n (by_ l)) (hz:IntsAt w B K kn ks) (hB:B<=base) (hbs:base<=w.heap.size) (hp : ∀ k∈ks,0<=k) (hfl:0<=fl/\fl<=255) (htx:tx.size<=300) (hn:n<=1099511627776) :
 Calls Tryz.prog 195 #[.agg #[.string (mkB cg),.bool cg],v,.agg #[.int .i64 u,.int .i64 md,.int .i64 d,.string id,.int .i64 fl,.slice K kn kc,.string tx]] w fun e w'=>∃ v',e = .returned v'/\OO base w w' (n+(em cg ⟨u,md,d,id,fl,ks,tx⟩).length) v' (l++em cg ⟨u,md,d,id,fl,ks,tx⟩):=by
 obtain⟨oM,hoM⟩ : ∃ oM,oM=Obj.cells #[.int .i64 u,.int .i64 md,.int .i64 d,.string id,.int .i64 fl,.slice K kn kc,.string tx] 61 (0,0):=⟨_,rfl⟩;have O0:=H_ (OM.alloc (OM.alloc (OM.start hO) (.cells #[.string (mkB cg),.bool cg] 189)) oM);have F0:=H_ (show FBk ((w.alloc (.cells #[.string (mkB cg),.bool cg] 189)).alloc oM) w.heap.size cg from (heap_alloc_old _ _ (by simp)).trans (heap_alloc_new w _));have M0:=H_ (show MBk ((w.alloc (.cells #[.string (mkB cg),.bool cg] 189)).alloc oM) (w.heap.size+1) u md d id fl K kn kc tx by
  have:=heap_alloc_new (w.alloc (.cells #[.string (mkB cg),.bool cg] 189)) oM;rw [show (w.alloc (.cells #[.string (mkB cg),.bool cg] 189)).heap.size=w.heap.size+1 by simp,hoM] at this;rw [hoM];exact this)
 have HZ:=H_ (IntsAt.below hz (((Below.refl base w).alloc hbs (.cells #[.string (mkB cg),.bool cg] 189)).alloc (by simp; omega) oM) hB);have hP:=own_none hO;have hP2:v.ownBlock≠some (w.heap.size+1):=fun e=>by have:=(hO.lt _ e).2; omega
 have HP:=H_ hp;have hs0:w.heap.size+2<=((w.alloc (.cells #[.string (mkB cg),.bool cg] 189)).alloc oM).heap.size:=by simp
 have HOB:=H_ (fun g e=>(hO.lt g e).1);obtain⟨A,c0,rfl,hc0⟩:=hO.slice;subst hoM;clear hO hz hp;go_enter Tryz.func195,Tryz.ntmps195;go_upto_region 1 with fail
 obtain⟨P,hPe⟩ : ∃ P,P=w.heap.size:=⟨_,rfl⟩;rw [<- hPe] at F0 M0 hs0 hP hP2 ⊢;have hP1:base<=P:=by omega
 have hPw:P<=w.heap.size:=by omega
 clear hPe;generalize (World.alloc (World.alloc w _) _)=w1 at O0 F0 M0 HZ hs0 ⊢;obtain⟨m0,m1,m2,m3,m4,m5,m6⟩:=M0.out.cells;obtain⟨f0,f1⟩:=F0.out.cells;have O1:=H_ (OM.start O0.out.own);have HM:=H_ (fun (wr:World) (g:w1.grownBy wr (Value.slice A n c0).ownBlock)=>(M0.out.keep (g.block (P+1) (by omega) (fun e=>hP2 e.symm))).cells);have HF:=H_ (fun (wr:World) (g:w1.grownBy wr (Value.slice A n c0).ownBlock)=>FBk.cells (cg:=cg) (w:=wr) (F:=P) ((g.block P (by omega) (fun e=>hP e.symm)).trans F0.out));have O1d:=H_ (OM.go O1.out ((Below.refl w1.heap.size w1).drew));have KA:=H_ (appendFixed_any (base:=0) (cp:=1) (N:=n+4) ((OM.alloc O1d.out (.cells #[.int .i64 u] 3)).own) (ints_one w1.drew u) (by simp) (fun ad e=>by injection e with e; subst e; exact own_none O1d.out.own) (by omega) rfl);obtain⟨k,hk⟩ : ∃ k,k=(ch cg md).length:=⟨_,rfl⟩;have hk4:k<=4:=by rw [hk]; exact ch_le cg md
 have HK:=H_ hk;clear hk
 go_region_held3 (fun wr=>wr.cell? ⟨P,0,none⟩ = some (.string (mkB cg))/\wr.cell? ⟨P,1,none⟩ = some (.bool cg)/\wr.cell? ⟨P+1,0,none⟩ = some (.int .i64 u)/\wr.cell? ⟨P+1,1,none⟩ = some (.int .i64 md)) (first | exact⟨f0,f1,m0,m1⟩ | exact⟨(HF.out _ O2.out.fr).1,(HF.out _ O2.out.fr).2,(HM.out _ O2.out.fr).1,(HM.out _ O2.out.fr).2.1⟩ | exact⟨(HF.out _ O3.out.fr).1,(HF.out _ O3.out.fr).2,(HM.out _ O3.out.fr).1,(HM.out _ O3.out.fr).2.1⟩ | go_keep) (first
  | (go_at_call 194
     refine KA.out.mono ?_;rintro e w2 ⟨v2,rfl,g2⟩;obtain⟨A2,c2,rfl,hc2⟩:=g2.own.slice;have O2:=H_ (OM.trans (OM.alloc O1d.out _) g2);have KC:=appendChange_om (cg:=cg) (M:=mkB cg) (base:=0) O2.out.own md (Nat.zero_le _) (by omega);rw [<- HK.out] at KC;have KC:=H_ KC;clear g2;dsimp only)
  | (go_at_call 193
     refine KC.out.mono ?_;rintro e w3 ⟨v3,rfl,g3⟩;obtain⟨A3,c3,rfl,hc3⟩:=g3.own.slice;have O3:=H_ (OM.trans O2.out g3);clear g3;dsimp only))
 rename_i hHeld;clear hHeld m0 m1 m2 m3 m4 m5 m6 f0 f1 HF;obtain⟨m0,m1,m2,m3,m4,m5,m6⟩:=HM.out w3 O3.out.fr;have KA:=H_ (appendFixed_any (base:=0) (cp:=1) (N:=n+4+k+4) ((OM.alloc O3.out (.cells #[.int .i64 d] 3)).own) (ints_one w3 d) (by simp) (fun ad e=>by injection e with e; subst e; exact own_none O3.out.own) (by omega) rfl);go_upto_region 3 with (go_at_call 194; go_loud (
  refine KA.out.mono ?_;rintro e w4 ⟨v4,rfl,g4⟩;obtain⟨A4,c4,rfl,hc4⟩:=g4.own.slice;have O4:=H_ (OM.trans (OM.alloc O3.out _) g4);clear g4 m0 m1 m2 m3 m4 m5 m6))
 obtain⟨m0,m1,m2,m3,m4,m5,m6⟩:=HM.out w4 O4.out.fr;go_upto_region 4 with (at_builtin; go_loud (
  refine wpList_ow rfl _ _ rfl rfl rfl (OM.alloc O4.out _).own (bytesAt_new w4 [fl.toNat.toUInt8] rfl (Nat.lt_succ_self _) rfl (by_int (x:=fl) (by omega) (by omega)).symm) (by omega) (Nat.zero_le _) (by decide) ?_;intro v5 w5 hown5 hg5 hat5;obtain⟨A5,c5,rfl,hc5⟩:=hown5.slice;have O5:=H_ ((OM.alloc O4.out _).app (m:=n+4+k+4+1) (l':=l++fxs [u]++ch cg md++fxs [d]++[fl.toNat.toUInt8]) (by rw [by_append]; exact hown5) hg5 hat5);clear hown5 hg5 hat5 m0 m1 m2 m3 m4 m5 m6))
 obtain⟨m0,m1,m2,m3,m4,m5,m6⟩:=HM.out w5 O5.out.fr;have hs5:=O5.out.fr.size;have hb5:=O5.out.below HOB.out (show base<=w1.heap.size by omega);have KB:=H_ (bitsOf_any (cp:=kc) (IntsAt.below HZ.out (BxKit.below_drewN hb5 1) hB) HP.out);obtain⟨M,hM⟩ : ∃ M,M=maskN ks:=⟨_,rfl⟩;rw [<- hM] at KB;have HMM:=H_ hM;have O5d:=H_ (OM.go O5.out ((Below.refl w5.heap.size w5).drew));have KC:=H_ (appendFixed_any (base:=0) (cp:=2) (N:=n+4+k+4+1+8) (O5d.out.own.kept ((Below.refl _ _).alloc lr_ (.cells #[.int .i64 (M:Nat),.int .i64 (tx.size:Nat)] 3))) (ints_two w5.drew (M:Nat) (tx.size:Nat)) (by simp) (fun ad e=>by injection e with e; subst e; exact own_none O5d.out.own) (by omega) (by omega));clear hM
 go_region_held3 (fun wr=>wr.cell? ⟨P+1,5,none⟩ = some (.slice K kn kc)/\wr.cell? ⟨P+1,6,none⟩ = some (.string tx)) (first | exact⟨m5,m6⟩ | exact⟨(HM.out _ O6.out.fr).2.2.2.2.2.1,(HM.out _ O6.out.fr).2.2.2.2.2.2⟩ | go_keep) (first
  | (go_at_call 215
     refine KB.out.mono ?_;rintro e w6 ⟨rfl,rfl⟩;dsimp only)
  | (go_at_call 194
     refine KC.out.mono ?_;rintro e w6 ⟨v6,rfl,g6⟩;obtain⟨A6,c6,rfl,hc6⟩:=g6.own.slice;have O6:=H_ (OM.trans (OM.alloc O5d.out _) g6);clear g6;dsimp only))
 rename_i hHeld;clear hHeld m0 m1 m2 m3 m4 m5 m6 hb5;obtain⟨m0,m1,m2,m3,m4,m5,m6⟩:=HM.out w6 O6.out.fr;have hs6:=O6.out.fr.size;have hb1:base<=w1.heap.size:=by omega
 have B6:=H_ (O6.out.oo HOB.out hb1);go_wp2_with (at_builtin; go_loud (
  refine wpList_ows rfl _ _ rfl rfl rfl B6.out.own (by omega) (Nat.le_trans hb1 hs6) ?_;intro v7 w7 hown7 hg7))
 go_ret;have hb01:Below base w w1:=O0.out.below HOB.out hbs;have ob:=OO.app (OO.trans ⟨O1.out.own.up HOB.out,hb01,hbs⟩ B6.out) (m:=n+(em cg ⟨u,md,d,id,fl,ks,tx⟩).length) (l':=l++em cg ⟨u,md,d,id,fl,ks,tx⟩) (by
  have e:l++em cg ⟨u,md,d,id,fl,ks,tx⟩=(l++fxs [u]++ch cg md++fxs [d]++[fl.toNat.toUInt8]++fxs [(M:Int),(tx.size:Int)])++tx.data.toList:=by
   unfold em;rw [fxs_two,fxs_one,fxs_one,mx_nat,mx_nat,HMM.out,Nat.mod_eq_of_lt (show fl.toNat<256 by omega)];simp only [List.append_assoc]
  rw [e,em_len,by_append,<- strCells_by];have e2:n+4+k+4+1+8+tx.size=n+(17+(ch cg md).length+tx.size):=by rw [<- HK.out]; omega
  show Ow w7 base v7 (n+(17+(ch cg md).length+tx.size)) _;rw [<- e2];exact hown7) hg7
 exact⟨v7,rfl,ob⟩
end Go.Proofs.YtoljpfapphoflaaGreatDoor.OlC

set_option maxHeartbeats 1000000
set_option maxRecDepth 512
namespace Go.Proofs.YtoljpfapphoflaaGreatDoor.BxF
open Go.RowKit BxD BxKit BxA
theorem two_below (w:World) (o1 o2:Obj):Below w.heap.size w ((w.alloc o1).alloc o2):=((Below.refl _ _).alloc lr_ _).alloc (by simp) _
theorem find_next {ms:List Msg} {k:Nat} {m:Msg} {u:Int} (h : ∀ i x,i<k->ms[i]? = some x->x.uid≠u) (hm:ms[k]? = some m) (hne:m.uid≠u) : ∀ i x,i<k+1->ms[i]? = some x->x.uid≠u:=by
 intro i x hi hx;by_cases he:i=k
 · subst he
   rw [hm] at hx;injection hx with hx;rw [<- hx]; exact hne
 · exact h i x (by omega) hx
theorem find_end {ms:List Msg} {k:Nat} {u:Int} (h : ∀ i x,i<k->ms[i]? = some x->x.uid≠u) (hk:ms.length<=k):findI ms u = -1 :=
 findI_none fun x hx=>by
  obtain⟨i,hi,e⟩:=List.mem_iff_getElem.1 hx;exact h i x (by omega) (by rw [<- e]; exact List.getElem?_eq_getElem hi)
theorem isUid_any {u md d fl uid:Int} {id tx:ByteArray} {K:Option Addr} {kn kc b:Nat} {w:World} (hc:w.cell? ⟨b,0,none⟩ = some (.int .i64 uid)) (hb:b<w.heap.size) :
 Calls Tryz.prog 177 #[.agg #[.int .i64 u,.int .i64 md,.int .i64 d,.string id,.int .i64 fl,.slice K kn kc,.string tx],.pointer (some ⟨b,0,none⟩)] w fun e w'=>e = .returned (.bool (u==uid))/\Below w.heap.size w w':=by
 have hz:(w.alloc (.cells #[.int .i64 u,.int .i64 md,.int .i64 d,.string id,.int .i64 fl,.slice K kn kc,.string tx] 61)).cell? ⟨b,0,none⟩ = some (.int .i64 uid):=by
  rw [((Below.refl w.heap.size w).alloc lr_ _).cell (p:=⟨b,0,none⟩) hb]; exact hc
 clear hc;go_enter Tryz.func177,Tryz.ntmps177;go_wp2_with fail
 go_ret;exact⟨rfl,(Below.refl _ _).alloc lr_ _⟩
theorem indexMsg_any {uid:Int} {A:Option Addr} {n cp b B0:Nat} {ms:List Msg} {w:World} (hm:MsgsAt w B0 A n ms) (hB:B0<=w.heap.size) (hc:w.cell? ⟨b,0,none⟩ = some (.int .i64 uid)) (hb:b<w.heap.size) :
 Calls Tryz.prog 176 #[.slice A n cp,.func (.func 177) #[] #[.pointer (some ⟨b,0,none⟩)]] w fun e w'=>e = .returned (.int .i64 (findI ms uid))/\Below w.heap.size w w':=by
 have HM:=H_ hm;have hn:=hm.max;have HB:=H_ hc;clear hm hc;go_enter Tryz.func176,Tryz.ntmps176;go_wp2_with fail
 go_loopw [8] (fun s8 wr=>∃ k:Nat,k<=n/\s8 = .int .i64 k/\Hid (∀ i x,i<k->ms[i]? = some x->x.uid≠uid)/\Hid (Below w.heap.size w wr)) (fun s8 _=>n-(intOf s8).toNat)
 case atStart=>exact⟨0,Nat.zero_le _,rfl,fun i _ hi=>absurd hi (Nat.not_lt_zero _),Below.refl _ _⟩
 case round =>
  obtain⟨k,hk,rfl,HT,HA⟩:=hrel;by_cases hlt:k<n
  · obtain⟨ad,u,md,d,id,fl,ks,tx,K,kn,kc,rfl,hab,e1,c0,c1,c2,c3,c4,c5,c6,_,_,_,_⟩:=MsgsAt.sp HM.out HA.out hB hlt
    have g1:(0:Int)<=(k:Int):=by omega
    have g2:(k:Int)<(n:Int):=by omega
    have C:=isUid_any (u:=u) (md:=md) (d:=d) (fl:=fl) (id:=id) (tx:=tx) (K:=K) (kn:=kn) (kc:=kc) (w:=wr) ((HA.out.cell (p:=⟨b,0,none⟩) hb).trans HB.out) (Nat.lt_of_lt_of_le hb HA.out.size);by_cases hq:u=uid
    · subst hq
      rw [beq_self_eq_true] at C;have HF:=H_ (findI_hit HT.out e1 rfl);have K1:=H_ C;clear e1 C;go_wp2_with (go_at_call 177; refine K1.out.mono ?_; rintro e w1 ⟨rfl,hb1⟩)
      go_ret;exact⟨ret_int HF.out.symm,HA.out.trans (hb1.mono HA.out.size)⟩
    · have HT2:=H_ (find_next HT.out e1 hq)
      rw [show (u==uid)=false by simpa using hq] at C;have K1:=H_ C;clear e1 hq C;go_wp2_with (go_at_call 177; refine K1.out.mono ?_; rintro e w1 ⟨rfl,hb1⟩)
      have HD:=H_ (HA.out.trans (hb1.mono HA.out.size));go_roundw
      case rel=>exact⟨k+1,by omega,by go_num,HT2,HD⟩
      case measure=>simp [intOf]; omega
  · obtain rfl:n=k:=by omega
    have HF:=H_ (find_end HT.out (by have:=HM.out.len; omega));go_wp2_with fail
    go_ret;exact⟨ret_int HF.out.symm,HA.out⟩
theorem find_any {bid:ByteArray} {bv bn bh uid:Int} {WA MA:Option Addr} {wn wc mn mc B0:Nat} {ms:List Msg} {w:World} (hm:MsgsAt w B0 MA mn ms) (hB:B0<=w.heap.size) :
 Calls Tryz.prog 143 #[.agg #[.string bid,.int .i64 bv,.int .i64 bn,.int .i64 bh,.slice WA wn wc,.slice MA mn mc],.int .i64 uid] w fun e w'=>e = .returned (.int .i64 (findI ms uid))/\Below w.heap.size w w':=by
 have C:=fun o:Obj=>indexMsg_any (cp:=mc) (uid:=uid) (b:=w.heap.size+1) (w:=(w.alloc o).alloc (.cells #[.int .i64 uid] 3)) (MsgsAt.below hm (two_below w o _) hB) (by simp; omega) (by simp) (by simp);have K:=H_ C;clear C hm;go_enter Tryz.func143,Tryz.ntmps143;go_wp2_with (go_at_call 176; refine (K.out _).mono ?_; rintro e w1 ⟨rfl,hb1⟩)
 go_ret;exact⟨rfl,(two_below w _ _).trans (hb1.mono (by simp; omega))⟩
end Go.Proofs.YtoljpfapphoflaaGreatDoor.BxF
