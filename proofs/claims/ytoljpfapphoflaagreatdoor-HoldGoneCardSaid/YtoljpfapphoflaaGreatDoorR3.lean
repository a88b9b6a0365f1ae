/-
  RkS + RkM + RkN + RkV
-/
import Derived.Test.YtoljpfapphoflaaGreatDoorR2
import Derived.Deep.RegionHeld3
set_option linter.unusedVariables false
set_option linter.unusedSimpArgs false
set_option maxRecDepth 100000
namespace Go.Proofs.YtoljpfapphoflaaGreatDoor.RkS
open Go.RowKit BxD BxKit RkO RkC RkD RkR RkK RkP RkQ RkE
structure RC where
 name:ByteArray
 cut:Bool
 r:RD
def cOf (r:RC):Ch:=⟨r.name,r.cut,r.r.d⟩
def cell3 (r:RC):List Value:=[.string r.name,.bool r.cut,.slice r.r.A r.r.d.length r.r.c]
def cc (l:List RC):List Value:=l.flatMap cell3
theorem cc_length : ∀ l:List RC,(cc l).length=l.length*3
 | []=>rfl
 | r::l=>by
  have:=cc_length l;unfold cc at this ⊢;rw [List.flatMap_cons,List.length_append,this,List.length_cons];simp [cell3]; omega
theorem cc_append (a b:List RC):cc (a++b)=cc a++cc b:=by unfold cc; rw [List.flatMap_append]
theorem cc_get : ∀ (l:List RC) (i f:Nat) (r:RC),l[i]? = some r->f<3->(cc l)[i*3+f]? = (cell3 r)[f]?
 | r0::l,0,f,r,h,hf=>by
  obtain rfl:r0=r:=by simpa using h
  unfold cc;rw [List.flatMap_cons,Nat.zero_mul,Nat.zero_add,List.getElem?_append_left (by simpa [cell3] using hf)]
 | r0::l,i+1,f,r,h,hf=>by
  have:=cc_get l i f r (by simpa using h) hf;unfold cc at this ⊢;rw [List.flatMap_cons,List.getElem?_append_right (by simp [cell3]; omega),<- this]
  congr 1
  simp [cell3]; omega
def LooseAt (w:World) (base:Nat) (A:Option Addr) (n c:Nat) (l:List Ch):Prop :=
 ∃ rs:List RC,rs.map cOf=l/\w.ownsRow base 81 3 (.slice A n c) n (cc rs)/\(∀ r∈rs,ByT w r.r.A r.r.d.length r.r.d/\r.r.d.length<=r.r.c)/\(l=[]->A=none)
section
variable {w w' : World} {base n c : Nat} {A : Option Addr} {l : List Ch}
theorem LooseAt.len (h:LooseAt w base A n c l):l.length=n:=by
 obtain⟨rs,rfl,h,_⟩:=h;have:=h.1;rw [cc_length] at this;rw [List.length_map]; omega
theorem LooseAt.nil (w:World) (base:Nat):LooseAt w base none 0 0 []:=⟨[],rfl,World.ownsRow_nil _ _ _ _,fun r hr=>by simp at hr,fun _=>rfl⟩
theorem LooseAt.blk (h:LooseAt w base A n c l) {ad:Addr} (hA:A=some ad):base<=ad.block/\ad.block<w.heap.size/\∃ cs,w.heap[ad.block]? = some (.cells cs 81 (0,0)):=by
 obtain⟨rs,_,h,_⟩:=h;subst hA;rcases h.2 with⟨hv,_⟩ | ⟨g,cap,cur,hv,hb,hg,_⟩
 · injection hv with hv; cases hv
 · injection hv with hv
   injection hv with hv;subst hv;exact⟨hb,(gs_ hg).1,_,hg⟩
theorem LooseAt.keep (h:LooseAt w base A n c l) (hk:Kp w w') {r:Option Nat} (hg:w.grownBy w' r) (hr : ∀ ad,A=some ad->r≠some ad.block):LooseAt w' base A n c l:=by
 obtain⟨rs,e,ho,hd,hno⟩:=h;refine⟨rs,e,ho.kept hg ?_,fun r hr=>⟨(hd r hr).1.kp hk,(hd r hr).2⟩,hno⟩;rcases ho.2 with⟨hv,_⟩ | ⟨g,cap,cur,hv,hb,hgg,_⟩
 · injection hv with hv; subst hv; exact .inl rfl
 · injection hv with hv; subst hv; exact .inr (fun e=>hr _ rfl e.symm)
theorem LooseAt.below (h:LooseAt w base A n c l) (hb:Below w.heap.size w w'):LooseAt w' base A n c l:=h.keep (Kp.below hb lr_) (RkO.grown_below hb (row:=none)) (fun _ _=>by simp)
end
structure Fr (w w':World) (T:Nat) (LA:Option Addr):Prop where
 os:w'.os=w.os
 tape:w'.tape=w.tape
 output:w'.output=w.output
 size:w.heap.size<=w'.heap.size
 block : ∀ k,k<w.heap.size->k≠T->(∀ ad,LA=some ad->k≠ad.block)->w'.heap[k]? = w.heap[k]?
theorem Fr.of {w w':World} {T:Nat} {LA:Option Addr} (h:Below w.heap.size w w'):Fr w w' T LA:=⟨h.os,h.tape,h.output,h.size,fun k hk _ _=>h.block k hk⟩
theorem Fr.grown {a b c:World} {T:Nat} {LA:Option Addr} {r:Option Nat} (h:Fr a b T LA) (g:b.grownBy c r) (hr : ∀ k,r=some k->k<a.heap.size->k=T\/∃ ad,LA=some ad/\k=ad.block):Fr a c T LA:=by
 refine⟨g.os.trans h.os,g.tape.trans h.tape,g.output.trans h.output,Nat.le_trans h.size g.size,fun k hk h1 h2=>?_⟩;refine (g.block k (Nat.lt_of_lt_of_le hk h.size) fun e=>?_).trans (h.block k hk h1 h2);rcases hr k e.symm hk with h3 | ⟨ad,h3,h4⟩
 · exact h1 h3
 · exact h2 ad h3 h4
theorem Fr.set {a b:World} {T:Nat} {LA:Option Addr} (h:Fr a b T LA) (i:Nat) (u:Value):Fr a (b.setCell ⟨T,i,none⟩ u) T LA:=h.grown (setCell_grown b ⟨T,i,none⟩ u) fun k e _=>.inl (by injection e with e; exact e.symm)
theorem Fr.below {a b c:World} {T:Nat} {LA:Option Addr} (h:Fr a b T LA) (hb:Below b.heap.size b c):Fr a c T LA:=h.grown (RkO.grown_below hb (row:=none)) fun k e _=>by cases e
theorem Fr.alloc {a b:World} {T:Nat} {LA:Option Addr} (h:Fr a b T LA) (o:Obj):Fr a (b.alloc o) T LA:=h.below (below_alloc b o)
def LNew (w:World) (LA LA':Option Addr):Prop:=∀ ad',LA'=some ad'->w.heap.size<=ad'.block\/∃ ad,LA=some ad/\ad'.block=ad.block
def fuseV (f:Option Nat):Int:=(f.getD 0:Nat)
structure Rk (w:World) (base T:Nat) (s:St) (SA:Option Addr) (sn sc:Nat) (FA:Option Addr) (fn fcp:Nat) (LA:Option Addr) (ln lc:Nat):Prop where
 head:Row w T 102 [.int .i64 s.room,.slice SA sn sc,.slice FA fn fcp,.slice LA ln lc,.int .i64 s.writes,.bool s.down,.bool s.fuse.isSome,.int .i64 (fuseV s.fuse)]
 low:base<=T
 sure:FilesT w SA sn s.sure
 scap:sn<=sc
 files:FilesT w FA fn s.files
 fcap:fn<=fcp
 loose:LooseAt w base LA ln lc s.loose
section
variable {w w' : World} {base T : Nat} {s : St} {SA FA LA : Option Addr} {sn sc fn fcp ln lc : Nat}
theorem Rk.cells (h:Rk w base T s SA sn sc FA fn fcp LA ln lc) {wr:World} (hb:wr.heap[T]? = w.heap[T]?) :
 wr.cell? ⟨T,0,none⟩ = some (.int .i64 s.room)/\wr.cell? ⟨T,1,none⟩ = some (.slice SA sn sc)/\wr.cell? ⟨T,2,none⟩ = some (.slice FA fn fcp)/\wr.cell? ⟨T,3,none⟩ = some (.slice LA ln lc) /\
  wr.cell? ⟨T,4,none⟩ = some (.int .i64 s.writes)/\wr.cell? ⟨T,5,none⟩ = some (.bool s.down)/\wr.cell? ⟨T,6,none⟩ = some (.bool s.fuse.isSome)/\wr.cell? ⟨T,7,none⟩ = some (.int .i64 (fuseV s.fuse)) /\
  ∀ i,wr.frozen? ⟨T,i,none⟩ = false:=by
 have hr:=h.head.same hb;exact⟨hr.cell 0,hr.cell 1,hr.cell 2,hr.cell 3,hr.cell 4,hr.cell 5,hr.cell 6,hr.cell 7,fun i=>hr.frozen i⟩
theorem Rk.lt (h:Rk w base T s SA sn sc FA fn fcp LA ln lc):T<w.heap.size:=h.head.lt
theorem Rk.below (h:Rk w base T s SA sn sc FA fn fcp LA ln lc) (hb:Below w.heap.size w w'):Rk w' base T s SA sn sc FA fn fcp LA ln lc :=
 have hk:=Kp.below hb lr_
 ⟨h.head.below hb h.lt,h.low,h.sure.kp hk,h.scap,h.files.kp hk,h.fcap,h.loose.below hb⟩
theorem Rk.lb (h:Rk w base T s SA sn sc FA fn fcp LA ln lc) : ∀ ad,LA=some ad->base<=ad.block:=fun _ e=>(h.loose.blk e).1
theorem Rk.kp (h:Rk w base T s SA sn sc FA fn fcp LA ln lc) (hf:Fr w w' T LA):Kp w w':=by
 intro k hk;refine hf.block k hk.lt ?_ ?_
 · rintro rfl
   obtain⟨cs,t,fr,h1,h2⟩:=hk;have h3:=h.head;unfold Row at h3;rw [h3] at h1;injection h1 with h1;injection h1 with _ e2;subst e2;rcases h2 with h2 | h2 <;> exact absurd h2 (by decide)
 · rintro ad e rfl
   obtain⟨_,_,cs',h3⟩:=h.loose.blk e;obtain⟨cs,t,fr,h1,h2⟩:=hk;rw [h3] at h1;injection h1 with h1;injection h1 with _ e2;subst e2;rcases h2 with h2 | h2 <;> exact absurd h2 (by decide)
theorem Rk.TL (h:Rk w base T s SA sn sc FA fn fcp LA ln lc) {ad:Addr} (e:LA=some ad):T≠ad.block:=by
 rintro rfl;obtain⟨_,_,cs,h1⟩:=h.loose.blk e;have h3:=h.head;unfold Row at h3;rw [h3] at h1;injection h1 with h1;injection h1 with _ e2;exact absurd e2 (by decide)
end
def RkX (w:World) (base T:Nat) (s:St) (LA:Option Addr):Prop:=∃ SA sn sc FA fn fcp ln lc,Rk w base T s SA sn sc FA fn fcp LA ln lc
def RkPost (w:World) (base T:Nat) (LA:Option Addr) (s':St) (e0:Ending) (e:Ending) (w':World):Prop:=e=e0/\∃ LA',RkX w' base T s' LA'/\Fr w w' T LA/\LNew w LA LA'
theorem LNew.refl (w:World) (LA:Option Addr):LNew w LA LA:=fun ad e=>.inr ⟨ad,e,rfl⟩
theorem RkPost.same {w w':World} {base T:Nat} {s:St} {SA FA LA:Option Addr} {sn sc fn fcp ln lc:Nat} (h:Rk w base T s SA sn sc FA fn fcp LA ln lc) (hb:Below w.heap.size w w') (e:Ending):RkPost w base T LA s e e w' :=
 ⟨rfl,LA,⟨_,_,_,_,_,_,_,_,h.below hb⟩,Fr.of hb,LNew.refl w LA⟩
theorem Rk.turn {w w':World} {base T:Nat} {s s':St} {SA FA LA SA' FA' LA':Option Addr} {sn sc fn fcp ln lc sn' sc' fn' fcp' ln' lc':Nat} (h:Rk w base T s SA sn sc FA fn fcp LA ln lc) (hf:Fr w w' T LA)
 (head:Row w' T 102 [.int .i64 s'.room,.slice SA' sn' sc',.slice FA' fn' fcp',.slice LA' ln' lc',.int .i64 s'.writes,.bool s'.down,.bool s'.fuse.isSome,.int .i64 (fuseV s'.fuse)])
 (sure:FilesT w SA' sn' s'.sure) (sc:sn'<=sc') (files:FilesT w FA' fn' s'.files) (fc:fn'<=fcp') (loose:LooseAt w' base LA' ln' lc' s'.loose):Rk w' base T s' SA' sn' sc' FA' fn' fcp' LA' ln' lc' :=
 have hk:=h.kp hf
 ⟨head,h.low,sure.kp hk,sc,files.kp hk,fc,loose⟩
end Go.Proofs.YtoljpfapphoflaaGreatDoor.RkS

set_option maxHeartbeats 2000000
set_option maxRecDepth 100000
namespace Go.Proofs.YtoljpfapphoflaaGreatDoor.RkM
open Go.RowKit BxD BxKit RkO RkC RkD RkR RkK RkP RkQ RkE RkS
abbrev ptr (T:Nat):Value:=.pointer (some ⟨T,0,none⟩)
def NwPost (room:Int) (base:Nat) (w:World) (e:Ending) (w':World):Prop:=e = .returned (ptr w.heap.size)/\Rk w' base w.heap.size (newS room) none 0 0 none 0 0 none 0 0/\Below w.heap.size w w'
theorem new_rk (w:World) (base n:Nat) (room:Int) (hb:base<=w.heap.size) (hn:(max 0 (min room 1000000)).toNat=n) :
 NwPost room base w (.returned (ptr w.heap.size)) (w.alloc (.cells #[.int .i64 n,.slice none 0 0,.slice none 0 0,.slice none 0 0,.int .i64 0,.bool false,.bool false,.int .i64 0] 102)):=by
 subst hn;exact⟨rfl,⟨heap_alloc_new w _,hb,FilesT.nil _ _,Nat.le_refl _,FilesT.nil _ _,Nat.le_refl _,LooseAt.nil _ _⟩,below_alloc w _⟩
theorem new_any (w:World) (base:Nat) (room:Int) (hb:base<=w.heap.size):Calls Tryz.prog 26 #[.int .i64 room] w (NwPost room base w):=by
 by_cases h0:room<=0
 · have HP:=H_ (new_rk w base 0 room hb (by omega))
   rcases Int.lt_or_eq_of_le h0 with h0 | rfl
   all_goals
    go_enter Tryz.func26,Tryz.ntmps26;go_wp2;go_ret;exact HP.out
 · by_cases h1:room<=1000000
   · obtain⟨n,rfl⟩ : ∃ n:Nat,room=n:=⟨room.toNat,by omega⟩
     have HP:=H_ (new_rk w base n n hb (by omega));go_enter Tryz.func26,Tryz.ntmps26;go_wp2
     all_goals (go_ret; exact HP.out)
   · have HP:=H_ (new_rk w base 1000000 room hb (by omega))
     go_enter Tryz.func26,Tryz.ntmps26;go_wp2
     all_goals (go_ret; exact HP.out)
section
variable {w : World} {base T : Nat} {s : St} {SA FA LA : Option Addr} {sn sc fn fcp ln lc : Nat}
theorem size_any (h:Rk w base T s SA sn sc FA fn fcp LA ln lc) {k:Nat} (hk:Ok k s) (h6:k<=1000) :
 Calls Tryz.prog 75 #[ptr T] w fun e w'=>e = .returned (.int .i64 (costs s.files:Nat))/\Below w.heap.size w w':=by
 have hl:=h.files.len;have KC:=H_ (costs_any (cap:=fcp) (by have:=hk.files.len; omega) hk.files.sz h.files);obtain⟨c0,c1,c2,c3,c4,c5,c6,c7,_⟩:=h.cells rfl;clear h hl;unfold ptr;go_enter Tryz.func75,Tryz.ntmps75;go_wp2_with (go_at_call 80; refine KC.out.mono ?_; rintro e w' ⟨rfl,hb⟩)
 go_ret;exact⟨rfl,hb⟩
theorem room_any (h:Rk w base T s SA sn sc FA fn fcp LA ln lc) {k:Nat} (hk:Ok k s) (h6:k<=1000) :
 Calls Tryz.prog 76 #[ptr T] w fun e w'=>e = .returned (.int .i64 ((s.room:Int)-(costs s.files:Nat)))/\Below w.heap.size w w':=by
 have KC:=H_ (size_any (h.below (Below.drew (Below.refl _ _))) hk h6);have hc:=hk.files.cost;have hr:=hk.room;obtain⟨C,hC⟩ : ∃ C,C=costs s.files:=⟨_,rfl⟩;rw [<- hC] at KC hc ⊢;have hs:IntKind.i64.wrap ((s.room:Int)-(C:Int))=(s.room:Int)-(C:Int):=IntWalk.i64_in _ (by omega);obtain⟨c0,c1,c2,c3,c4,c5,c6,c7,_⟩:=h.cells rfl;have HT:=H_ h.lt;clear h hC hc hr;unfold ptr at *;go_enter Tryz.func76,Tryz.ntmps76;go_upto_region 3 with fail
 go_region_held3 (fun wr=>wr.cell? ⟨T,0,none⟩ = some (.int .i64 s.room)) (with_reducible first | exact c0 | exact d0 | go_keep) (first
  | (go_at_call 75; go_loud (refine KC.out.mono ?_; rintro e w1 ⟨rfl,hb1⟩; have HB1:=H_ (show Below w.heap.size w w1 from (Below.drew (Below.refl w.heap.size w)).trans hb1); have d0:w1.cell? ⟨T,0,none⟩ = some (.int .i64 s.room):=(Below.cell HB1.out (p:=⟨T,0,none⟩) HT.out).trans c0; clear hb1; dsimp only)))
 rename_i hHeld;clear hHeld;go_wp2_with fail
 go_ret;exact⟨rfl,HB1.out⟩
theorem down_any (h:Rk w base T s SA sn sc FA fn fcp LA ln lc):Calls Tryz.prog 55 #[ptr T] w fun e w'=>e = .returned (.bool s.down)/\w=w':=by
 obtain⟨c0,c1,c2,c3,c4,c5,c6,c7,_⟩:=h.cells rfl;clear h;unfold ptr;go_enter Tryz.func55,Tryz.ntmps55;go_wp2
 all_goals (go_ret; exact⟨rfl,rfl⟩)
def NmPost (l:List ByteArray) (w:World) (e:Ending) (w':World):Prop :=
 ∃ A c,e = .returned (.slice A l.length c)/\w'.ownsRow w.heap.size 9 1 (.slice A l.length c) l.length (l.map Value.string)/\Below w.heap.size w w'
theorem map_take_snoc {l:List F} {k:Nat} {x:ByteArray} {d:List UInt8} (h:l[k]? = some (x,d)):(l.take (k+1)).map (fun f=>Value.string f.1)=(l.take k).map (fun f=>Value.string f.1)++[.string x]:=by
 obtain⟨hl,e⟩:=List.getElem?_eq_some_iff.1 h;rw [List.take_succ_eq_append_getElem hl,List.map_append,e]; rfl
theorem names_any (h:Rk w base T s SA sn sc FA fn fcp LA ln lc) {k:Nat} (hk:Ok k s) (h6:k<=1000) :
 Calls Tryz.prog 50 #[ptr T] w (NmPost (s.files.map (·.1)) w):=by
 have hl:=h.files.len;have hn:fn<=1000:=by have:=hk.files.len; omega
 have HF:=H_ h.files;have HL:=H_ hl;have HZ:=H_ hk.files.sz;obtain⟨c0,c1,c2,c3,c4,c5,c6,c7,_⟩:=h.cells rfl;clear h hl;unfold ptr;go_enter Tryz.func50,Tryz.ntmps50;go_wp2_with fail
 go_loopw [13,3] (fun s13 s3 wr=>∃ (q:Nat) (v:Value),v=s3/\q<=fn/\s13 = .int .i64 q/\Hid (Below w.heap.size w wr)/\Hid (wr.ownsRow w.heap.size 9 1 v q ((s.files.take q).map fun f=>Value.string f.1))) (fun s13 _ _=>fn-(intOf s13).toNat)
 case atStart=>exact⟨0,_,rfl,Nat.zero_le _,rfl,Below.refl _ _,World.ownsRow_nil _ _ _ _⟩
 case round =>
  obtain⟨q,v,rfl,hq,rfl,HB,HO⟩:=hrel;have hsz:=HB.out.size;by_cases hlt:q<fn
  · obtain⟨ad,x,K,kd,kc,rfl,hp,d1,d2,hle,_⟩:=HF.out.sp (Kp.below HB.out lr_) (j:=q) hlt
    have HSN:=H_ (map_take_snoc hp);obtain⟨m,hm⟩ : ∃ m,m=kd.length:=⟨_,rfl⟩;rw [<- hm] at d2;clear hp hm hle;have HS:=H_ (src_new (wr.alloc (.cells #[.string x,.slice K m kc] 144)) #[.string x] 9 (m:=1) (sz:=1) rfl rfl (fun u hu=>by simp at hu; subst hu; rfl));rw [World.size_alloc] at HS;have HO5:=H_ ((HO.out.alloc (.cells #[.string x,.slice K m kc] 144)).alloc (.cells #[.string x] 9));have HB5:=H_ ((HB.out.alloc hsz (.cells #[.string x,.slice K m kc] 144)).alloc (by simp; omega) (.cells #[.string x] 9));have HSZ:=H_ (show w.heap.size<=((wr.alloc (.cells #[.string x,.slice K m kc] 144)).alloc (.cells #[.string x] 9)).heap.size by simp; omega);go_wp2_with (at_builtin; go_loud (
     refine wpList_rows elS rfl _ _ rfl rfl rfl HO5.out HS.out (by unfold maxLen; omega) (by omega) HSZ.out ?_;intro v6 w6 hown hg6 _;have HO6:=H_ (show w6.ownsRow w.heap.size 9 1 v6 (q+1) ((s.files.take (q+1)).map fun f=>Value.string f.1) by rw [HSN.out]; exact hown);have HB6:=H_ (HB5.out.grown hg6 HSZ.out (fun g e=>(HO.out.lt g e).1));clear hown hg6))
    go_roundw
    case rel=>exact⟨q+1,_,rfl,by omega,by go_num,HB6,HO6⟩
    case measure=>simp [intOf]; omega
  · obtain rfl:fn=q:=by omega
    have ho:=HO.out;rw [List.take_of_length_le (by rw [HL.out]; exact Nat.le_refl _)] at ho;have e1:(s.files.map fun f=>Value.string f.1)=(s.files.map (·.1)).map Value.string:=by rw [List.map_map]; rfl
    rw [e1] at ho;obtain⟨A6,k6,rfl,hk6⟩:=RkR.own_slice ho;have HP:=H_ (show NmPost (s.files.map (·.1)) w (.returned (.slice A6 fn k6)) wr by
     have hln:(s.files.map (·.1)).length=fn:=by rw [List.length_map]; exact HL.out
     unfold NmPost;rw [hln];exact⟨A6,k6,rfl,ho,HB.out⟩)
    clear ho e1;go_wp2_with fail
    go_ret;exact HP.out
end
end Go.Proofs.YtoljpfapphoflaaGreatDoor.RkM

set_option maxHeartbeats 1000000
set_option maxRecDepth 100000
namespace Go.Proofs.YtoljpfapphoflaaGreatDoor.RkN
open Go.RowKit BxD BxKit RkO RkC RkD RkR RkK RkP RkQ RkE RkS RkM
def RdPost (o:Option (List UInt8)) (w:World) (e:Ending) (w':World):Prop :=
 ∃ A m c,e = .returned (.tuple #[.slice A m c,.bool o.isSome])/\ByT w' A m (o.getD [])/\m<=c/\Below w.heap.size w w'
theorem rdF_down {s:St} (h:s.down=true) (n:ByteArray):rdF s n=none:=by unfold rdF; rw [if_pos h]
theorem rdF_miss {s:St} {n:ByteArray} (h:hitF n s.files=false):rdF s n=none:=by
 unfold rdF;split
 · rfl
 · unfold hitF hit at h
   split
   · rename_i f hf
     rw [hf] at h;have hne : ¬ cmpS f.1 n=0:=by simpa using h
     rw [if_neg (fun e=>hne ((ordS.eq0 _ _).2 e))]
   · rfl
theorem rdF_hit {s:St} {n:ByteArray} (hd:s.down=false) (h:hitF n s.files=true) : ∃ d,s.files[lo cmpS n s.files]? = some (n,d)/\rdF s n=some d:=by
 obtain⟨d,hv⟩:=(hit_iff ordS).1 h;refine⟨d,hv, ?_⟩;unfold rdF;rw [if_neg (by rw [hd]; decide),hv];simp
section
variable {w : World} {base T : Nat} {s : St} {SA FA LA : Option Addr} {sn sc fn fcp ln lc : Nat}
theorem read_any (h:Rk w base T s SA sn sc FA fn fcp LA ln lc) {k:Nat} (hk:Ok k s) (h6:k<=1000) (n:ByteArray) :
 Calls Tryz.prog 56 #[ptr T,.string n] w (RdPost (rdF s n) w):=by
 have hl:=h.files.len;have hn:fn<=1000:=by have:=hk.files.len; omega
 obtain⟨c0,c1,c2,c3,c4,c5,c6,c7,_⟩:=h.cells rfl;unfold ptr;cases hd:s.down with
 | true =>
  rw [rdF_down hd];rw [hd] at c5;clear h;go_enter Tryz.func56,Tryz.ntmps56;go_wp2;go_ret2;exact⟨none,0,0,rfl,ByT.nil _ _,Nat.le_refl _,Below.refl _ _⟩
 | false =>
  rw [hd] at c5;have KP:=H_ (place_any (cap:=fcp) n (by omega) hk.files.srt h.files);unfold PlPost at KP;cases hh:hitF n s.files with
  | false =>
   rw [rdF_miss hh];rw [hh] at KP;clear h hh hd;go_enter Tryz.func56,Tryz.ntmps56;go_wp2_with (go_at_call 98; go_loud (refine KP.out.mono ?_; rintro e w1 ⟨rfl,hb1⟩; have HB1:=H_ hb1; clear hb1))
   go_ret2;exact⟨none,0,0,rfl,ByT.nil _ _,Nat.le_refl _,HB1.out⟩
  | true =>
   obtain⟨d,hg,hr⟩:=rdF_hit hd hh;rw [hr];rw [hh] at KP;have hlt:=hitF_lt hh;obtain⟨i,hi⟩ : ∃ i,i=lo cmpS n s.files:=⟨_,rfl⟩;rw [<- hi] at KP hg hlt;have hin:i<fn:=by omega
   have hdz:=(hk.files.sz _ (List.mem_of_getElem? hg)).2;have hdz:d.length<=200000:=hdz;have HF:=H_ h.files;have HT:=H_ h.lt;have HG:=H_ hg;have HDZ:=H_ hdz;have hi0:(0:Int)<=(i:Int):=by omega
   have hi1:(i:Int)<(fn:Int):=by omega
   clear h hh hd hr hi hg hlt hdz;go_enter Tryz.func56,Tryz.ntmps56;go_upto_region 6 with (go_at_call 98; go_loud (refine KP.out.mono ?_; rintro e w1 ⟨rfl,hb1⟩; have HB1:=H_ hb1; clear hb1))
   have d2:w1.cell? ⟨T,2,none⟩ = some (.slice FA fn fcp):=(HB1.out.cell (p:=⟨T,2,none⟩) HT.out).trans c2;obtain⟨ad,x,K,kd,kc,rfl,hp,e1,e2,hle,hby⟩:=HF.out.sp (Kp.below HB1.out lr_) hin;have hxd:(x,kd)=(n,d):=Option.some.inj (hp.symm.trans HG.out);obtain rfl:kd=d:=congrArg Prod.snd hxd;have KC:=H_ (clone_any (cap:=kc) hby.at_ lr_ (by have:=HDZ.out; omega));obtain⟨m,hm⟩ : ∃ m,m=kd.length:=⟨_,rfl⟩;unfold ClB at KC;rw [<- hm] at e2 KC;clear hp hxd hle hby hm c0 c1 c2 c3 c4 c5 c6 c7;go_wp2_with (go_at_call 78; go_loud (refine KC.out.mono ?_; rintro e w2 ⟨A2,k2,rfl,hk2,hb2,hw2⟩; have HD2:=H_ hb2; have HB2:=H_ (HB1.out.trans (hw2.mono HB1.out.size)); clear hb2 hw2))
   go_ret2;exact⟨A2,m,k2,rfl,HD2.out,hk2,HB2.out⟩
end
end Go.Proofs.YtoljpfapphoflaaGreatDoor.RkN

set_option maxHeartbeats 1000000
set_option maxRecDepth 100000
namespace Go.Proofs.YtoljpfapphoflaaGreatDoor.RkV
open Go.RowKit BxD BxKit RkO RkC RkD RkR RkK RkP RkQ RkE RkS RkM RkN
def seS (s:St) (nx:List F):St:={ s with sure:=nx,files:=nx,loose:=[] }
section
variable {w : World} {base T : Nat} {s : St} {SA FA LA : Option Addr} {sn sc fn fcp ln lc : Nat}
theorem settle_any (h:Rk w base T s SA sn sc FA fn fcp LA ln lc) {NA:Option Addr} {nn nc:Nat} {nx:List F} (hx:FilesT w NA nn nx) (hc:nn<=nc) :
 Calls Tryz.prog 82 #[ptr T,.slice NA nn nc] w (RkPost w base T LA (seS s nx) (.returned (.tuple #[]))):=by
 have HFr:=H_ (show Fr w (((w.setCell ⟨T,1,none⟩ (.slice NA nn nc)).setCell ⟨T,2,none⟩ (.slice NA nn nc)).setCell ⟨T,3,none⟩ (.slice none 0 0)) T LA from (((Fr.of (Below.refl _ _)).set 1 _).set 2 _).set 3 _);have HP:=H_ (show RkPost w base T LA (seS s nx) (.returned (.tuple #[])) (.returned (.tuple #[])) (((w.setCell ⟨T,1,none⟩ (.slice NA nn nc)).setCell ⟨T,2,none⟩ (.slice NA nn nc)).setCell ⟨T,3,none⟩ (.slice none 0 0)) from
  ⟨rfl,none,⟨NA,nn,nc,NA,nn,nc,0,0,h.turn HFr.out (((h.head.stored 1 _).stored 2 _).stored 3 _) hx hc hx hc (LooseAt.nil _ _)⟩,HFr.out,fun ad e=>by cases e⟩)
 obtain⟨c0,c1,c2,c3,c4,c5,c6,c7,cf⟩:=h.cells rfl;have f1:=cf 1;have f2:=cf 2;have f3:=cf 3;clear h cf hx;unfold ptr;go_enter Tryz.func82,Tryz.ntmps82;go_wp2
 go_end0
 exact HP.out
theorem flush_any (h:Rk w base T s SA sn sc FA fn fcp LA ln lc) :
 Calls Tryz.prog 38 #[ptr T] w (RkPost w base T LA (flS s) (.returned (.int .i64 (flE s)))):=by
 unfold flS flE;cases hd:s.down with
 | true =>
  simp only [if_true];have HP:=H_ (RkPost.same h (Below.refl _ _) (.returned (.int .i64 5)));obtain⟨c0,c1,c2,c3,c4,c5,c6,c7,cf⟩:=h.cells rfl;rw [hd] at c5;clear h cf hd;unfold ptr;go_enter Tryz.func38,Tryz.ntmps38;go_wp2;go_ret;exact HP.out
 | false =>
  rw [if_neg (by decide),if_neg (by decide)];have KS:=H_ (settle_any h h.files h.fcap);obtain⟨c0,c1,c2,c3,c4,c5,c6,c7,cf⟩:=h.cells rfl;rw [hd] at c5;clear h cf;unfold ptr at *;unfold seS at KS;go_enter Tryz.func38,Tryz.ntmps38;go_wp2_with (go_at_call 82; go_loud (refine KS.out.mono ?_; rintro e w1 ⟨rfl,g⟩; have HG:=H_ g; clear g))
  go_ret;rw [hd] at HG;exact⟨rfl,HG.out⟩
theorem LooseAt.more {w w6:World} {base n:Nat} {l:List Ch} {r:RC} {v:Value} {rs:List RC} (e:rs.map cOf=l) (hd : ∀ q∈rs,ByT w q.r.A q.r.d.length q.r.d/\q.r.d.length<=q.r.c) (hr:ByT w r.r.A r.r.d.length r.r.d/\r.r.d.length<=r.r.c)
 (hown:w6.ownsRow base 81 3 v (n+1) (cc rs++cell3 r)) (hk:Ku w w6) : ∃ A' c',v = .slice A' (n+1) c'/\LooseAt w6 base A' (n+1) c' (l++[cOf r]):=by
 obtain⟨A',c',rfl,_⟩:=RkR.own_slice hown;refine⟨A',c',rfl,rs++[r],by rw [List.map_append,e]; rfl, ?_,fun q hq=>?_,fun e=>absurd e (by simp)⟩
 · rw [cc_append,show cc [r]=cell3 r by simp [cc]]; exact hown
 · rcases List.mem_append.1 hq with hq | hq
   · exact⟨(hd q hq).1.ku hk,(hd q hq).2⟩
   · obtain rfl:=List.mem_singleton.1 hq
     exact⟨hr.1.ku hk,hr.2⟩
theorem own_ty3 {w:World} {base n:Nat} {v:Value} {xs:List Value} (h:w.ownsRow base 81 3 v n xs) : ∀ g,v.ownBlock=some g->∃ cs t fr,w.heap[g]? = some (.cells cs t fr)/\t≠144/\t≠5:=by
 intro g hg;rcases h.2 with⟨rfl,_⟩ | ⟨g',cap,cur,rfl,hb,hgg,_⟩
 · cases hg
 · obtain rfl:g'=g:=Option.some.inj hg
   exact⟨_,_,_,hgg,by decide,by decide⟩
theorem own_no {w:World} {base n T:Nat} {v:Value} {xs l:List Value} (h:w.ownsRow base 81 3 v n xs) (hT:Row w T 102 l):v.ownBlock≠some T:=by
 intro hg;rcases h.2 with⟨rfl,_⟩ | ⟨g',cap,cur,rfl,hb,hgg,_⟩
 · cases hg
 · obtain rfl:g'=T:=Option.some.inj hg
   unfold Row at hT;rw [hgg] at hT;injection hT with hT;injection hT with _ e;exact absurd e (by decide)
theorem own_at {w:World} {base e sz m n c:Nat} {ad:Addr} {xs:List Value} (h:w.ownsRow base e sz (.slice (some ad) n c) m xs):(Value.slice (some ad) n c).ownBlock=some ad.block:=by
 rcases h.2 with⟨hv,_⟩ | ⟨g,cap,cur,hv,_⟩
 · cases hv
 · cases hv; rfl
theorem Rk.wrote {w W1 w6:World} {base T:Nat} {s:St} {SA FA LA NA:Option Addr} {sn sc fn fcp ln lc nn nc:Nat} (h:Rk w base T s SA sn sc FA fn fcp LA ln lc) {rs:List RC} {r:RC} {v:Value} {nx:List F} {b7:Bool} {f7:Option Nat} {o:Obj}
 (hl:rs.map cOf=s.loose) (hown:w.ownsRow base 81 3 (.slice LA ln lc) ln (cc rs)) (hd : ∀ q∈rs,ByT w q.r.A q.r.d.length q.r.d/\q.r.d.length<=q.r.c) (hr:ByT w r.r.A r.r.d.length r.r.d/\r.r.d.length<=r.r.c)
 (hx:FilesT w NA nn nx) (hc:nn<=nc) (hF1:Fr w W1 T LA) (hR1:Row W1 T 102 [.int .i64 s.room,.slice SA sn sc,.slice NA nn nc,.slice LA ln lc,.int .i64 s.writes,.bool s.down,.bool b7,.int .i64 (fuseV f7)]) (hb7:f7.isSome=b7)
 (hO1:W1.ownsRow base 81 3 (.slice LA ln lc) ln (cc rs))
 (h6:w6.ownsRow base 81 3 v (ln+1) (cc rs++cell3 r)) (g6:(W1.alloc o).grownBy w6 (Value.slice LA ln lc).ownBlock) (hv:v.ownBlock=(Value.slice LA ln lc).ownBlock\/v.ownBlock=some (W1.alloc o).heap.size) (z:Int) (hz:z=((s.writes+1:Nat):Int)) :
 RkPost w base T LA { s with files:=nx,loose:=s.loose++[cOf r],writes:=s.writes+1,fuse:=f7 } (.returned (.int .i64 0)) (.returned (.int .i64 0)) ((w6.setCell ⟨T,3,none⟩ v).setCell ⟨T,4,none⟩ (.int .i64 z)):=by
 subst hz;have hO1':=hO1.alloc o;have hT1:T<(W1.alloc o).heap.size:=by have:=hR1.lt; simp; omega
 have hb6:w6.heap[T]? = (W1.alloc o).heap[T]?:=g6.block T hT1 (fun e=>own_no hO1' (hR1.alloc o) e.symm);have hR6:=(hR1.alloc o).same hb6;have hF6:Fr w w6 T LA:=(hF1.alloc o).grown g6 fun k e hk=>by
  cases LA with
  | none=>cases e
  | some ad =>
   have e2:some ad.block=some k:=(own_at hown).symm.trans e;exact .inr ⟨_,rfl,(Option.some.inj e2).symm⟩
 have hku:Ku w w6:=((h.kp (hF1.alloc o))).ku.trans (Ku.grown g6 fun g e=>by obtain⟨cs,t,fr,q1,q2,q3⟩:=own_ty3 hO1' g e; exact⟨cs,t,fr,q1,q3⟩);obtain⟨A',c',rfl,hL6⟩:=LooseAt.more hl hd hr h6 hku;have hF8:Fr w ((w6.setCell ⟨T,3,none⟩ (.slice A' (ln+1) c')).setCell ⟨T,4,none⟩ (.int .i64 ((s.writes+1:Nat):Int))) T LA:=(hF6.set 3 _).set 4 _;refine⟨rfl,A',⟨SA,sn,sc,NA,nn,nc,ln+1,c',h.turn hF8 ?_ h.sure h.scap hx hc ?_⟩,hF8,fun ad e=>?_⟩
 · have:=(hR6.stored 3 (.slice A' (ln+1) c')).stored 4 (.int .i64 ((s.writes+1:Nat):Int))
   rw [<- hb7] at this;exact this
 · have k1:=Kp.setCell hR6 (by decide) (by decide) 3 (.slice A' (ln+1) c')
   have k2:=Kp.setCell (hR6.stored 3 (.slice A' (ln+1) c')) (by decide) (by decide) 4 (.int .i64 ((s.writes+1:Nat):Int));refine hL6.keep (k1.trans k2) (RkO.grown_trans (setCell_grown w6 ⟨T,3,none⟩ _) (setCell_grown _ ⟨T,4,none⟩ _)) fun ad e e2=>?_;obtain⟨_,_,cs,q⟩:=hL6.blk e;have e3:T=ad.block:=Option.some.inj e2;rw [<- e3] at q;unfold Row at hR6;rw [q] at hR6;injection hR6 with hR6;injection hR6 with _ e4;exact absurd e4 (by decide)
 · subst e
   rw [own_at h6] at hv;rcases hv with hv | hv
   · right
     cases LA with
     | none=>cases hv
     | some ad2 =>
      rw [own_at hown] at hv;exact⟨_,rfl,Option.some.inj hv⟩
   · left
     have:=Option.some.inj hv;have hs:=hF1.size;rw [this]; simp; omega
end
end Go.Proofs.YtoljpfapphoflaaGreatDoor.RkV
