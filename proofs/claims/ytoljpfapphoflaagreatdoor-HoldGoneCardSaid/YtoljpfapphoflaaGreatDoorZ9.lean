/-
  RdD + BxO + FoN + OlP + BxCp
-/
import Derived.Test.YtoljpfapphoflaaGreatDoorZ5
import Derived.Test.YtoljpfapphoflaaGreatDoorBxA
import Derived.Test.YtoljpfapphoflaaGreatDoorShelf
import Derived.Lib.LaidTab
import Derived.Lib.ItoaNum
import Derived.Lib.SmallJoins
import Derived.Stop.LaidErr
import Derived.MakeChecks
import Derived.Test.YtoljpfapphoflaaGreatDoorZ8
import Derived.Test.YtoljpfapphoflaaGreatDoorN4
import Derived.Deep.DeepCutAuto
import Derived.Deep.RegionLaw
set_option linter.unusedVariables false
set_option linter.unusedSimpArgs false
set_option maxRecDepth 512
namespace Go.Proofs.YtoljpfapphoflaaGreatDoor.RdD
open Go.RowKit BxD BxOp RwD RwM PkA PkB PkD PkF OlD PtD PtR RpD
theorem kyF_good {k:Int} (h0:0<=k) (h1:k<=63) (rest:List UInt8) (ov:Bool):kyF (nums [k]++rest,0,ov)=(k,(rest,0,ov)):=by
 unfold kyF;rw [nt_good h0 (m:=63) (by omega) (by decide)];exact congrArg (fun x=>(x,(rest,0,ov))) (show ((k.toNat:Nat):Int)=k by omega)
theorem kys_good (rest:List UInt8) (ov:Bool) : ∀ ks:List Int,(∀ k∈ks,0<=k/\k<=63)->itG kyF ks.length (nums ks++rest,0,ov)=(ks,(rest,0,ov))
 | [],_=>rfl
 | k::r,h=>by
  have hk:=h k (by simp);rw [List.length_cons,itG_cons,nums_cons,List.append_assoc,kyF_good hk.1 hk.2];simp only;rw [kys_good rest ov r fun x hx=>h x (by simp [hx])]
theorem keys_fit {ks:List Int} {n:Nat} (h:keysB ks n=true) (hn:n<=64):(∀ k∈ks,0<=k/\k<=63)/\ks.length<=64:=by
 obtain⟨h1,h2⟩:=(keysB_iff ks n).1 h;have hk : ∀ k∈ks,0<=k/\k<=63:=fun k hk=>by have:=h1 k hk; omega
 refine⟨hk, ?_⟩;have h3:(ks.map Int.toNat).Nodup:=by
  rw [List.Nodup,List.pairwise_map];refine h2.imp_of_mem fun {a b} ha hb hab=>?_;have:=hk a ha;have:=hk b hb;omega
 have h4:=len_le h3 (b:=List.range 64) fun x hx=>by
  obtain⟨a,ha,rfl⟩:=List.mem_map.1 hx;have:=hk a ha;rw [List.mem_range];omega
 simpa using h4
theorem kyR_good {ks:List Int} {n:Nat} (h:keysB ks n=true) (hn:n<=64) (rest:List UInt8) (ov:Bool):kyR (nums [((ks.length:Nat):Int)]++(nums ks++rest),0,ov)=(ks,(rest,0,ov)):=by
 obtain⟨h1,h2⟩:=keys_fit h hn;unfold kyR;rw [nt_good (by omega) (m:=64) (by omega) (by decide)];simp only;rw [show ((ks.length:Nat):Int).toNat=ks.length from Int.toNat_natCast _,kys_good rest ov ks h1]
theorem t24 {s:ByteArray} (h:s.size<=24) (rest:List UInt8) (ov:Bool):txtS 24 (tx s++rest,0,ov)=(s,(rest,0,ov)):=txt_good (m:=24) h (by decide) rest ov
theorem t300 {s:ByteArray} (h:s.size<=300) (rest:List UInt8) (ov:Bool):txtS 300 (tx s++rest,0,ov)=(s,(rest,0,ov)):=txt_good (m:=300) h (by decide) rest ov
theorem msgR_good {n:Nat} {m:Msg} (h:mmB n m=true) (hn:n<=64) (rest:List UInt8) (ov:Bool):msgR (msb m++rest,0,ov)=(m,(rest,0,ov)):=by
 obtain⟨h1,h2,h3,h4,h5,h6,h7⟩:=PtD.mm_parts h;unfold msgR msb flb;rw [nums_cons,nums_cons m.mod,nums_cons m.flags];simp only [List.append_assoc];have t1:m.id.size<=24:=(atB_size h4).2;rw [nt_good (by omega) (m:=1000000) (by omega) (by decide)];simp only;rw [nt_good (by omega) (m:=1000000) (by omega) (by decide)];simp only;rw [nt_good (by omega) (m:=1000000) (by omega) (by decide)];simp only;rw [t24 t1];simp only;rw [nt_good (by omega) (m:=1000000) (by omega) (by decide)];simp only;rw [kyR_good h6 hn];simp only;rw [t300 h7];obtain⟨u,md,d,id,fl,ks,tx⟩:=m;have e1:((u.toNat:Nat):Int)=u:=Int.toNat_of_nonneg (by show 0<=u; have:1<=u:=h1.1; omega);have e2:((md.toNat:Nat):Int)=md:=Int.toNat_of_nonneg (by show 0<=md; have:1<=md:=h2.1; omega);have e3:((d.toNat:Nat):Int)=d:=Int.toNat_of_nonneg h3.1;have e4:((fl.toNat:Nat):Int)=fl:=Int.toNat_of_nonneg h5.1;simp only [e1,e2,e3,e4]
def Gd (r:Row):Prop:=∀ (rest:List UInt8) (ov:Bool),roS (rob r++rest,0,ov)=(r,(rest,0,ov))
theorem rob_word (w:ByteArray):rob (wRow w)=nums [4]++tx w:=by
 unfold rob;rw [if_neg (show ¬ (wRow w).kind=1 from (by decide : ¬ (4:Int)=1)),if_neg (show ¬ (wRow w).kind=2 from (by decide : ¬ (4:Int)=2)),if_neg (show ¬ ((wRow w).kind=3\/(wRow w).kind=6) from (by decide : ¬ ((4:Int)=3\/(4:Int)=6))),if_pos (show (wRow w).kind=4 from rfl)];rfl
theorem gd_word {w:ByteArray} (h:w.size<=24):Gd (wRow w):=by
 intro rest ov;rw [rob_word,List.append_assoc];unfold roS;rw [nt_good (by decide) (m:=1000000) (by decide) (by decide)];rw [if_neg (show ¬ ((4:Int).toNat=1) by decide),if_neg (show ¬ ((4:Int).toNat=2) by decide),if_neg (show ¬ ((4:Int).toNat=3\/(4:Int).toNat=6) by decide),if_pos (show (4:Int).toNat=4 by decide),t24 h];rfl
theorem rob_msg (m:Msg):rob ⟨1,0,0,m,emT⟩=nums [1]++msb m:=by
 unfold rob;rw [if_pos rfl]
theorem gd_msg {n:Nat} {m:Msg} (h:mmB n m=true) (hn:n<=64):Gd ⟨1,0,0,m,emT⟩:=by
 intro rest ov;rw [rob_msg,List.append_assoc];unfold roS;rw [nt_good (by decide) (m:=1000000) (by decide) (by decide)];rw [if_pos (show (1:Int).toNat=1 by decide),msgR_good h hn];rfl
theorem rob_ne (r:Row):(rob r).length≠0:=by
 unfold rob;rw [List.length_append];have:0<(nums [r.kind]).length:=by
  rw [nums_one];exact Lib.uvarint_pos _
 omega
theorem pr_all : ∀ (l acc:List Row) (f:Nat),(∀ r∈l,Gd r)->acc.length+l.length<=200->l.length<f->prR f acc (l.flatMap rob,0,false)=(acc++l,0)
 | [],acc,f+1,_,_,_=>by
  unfold prR;rw [if_pos (show (List.flatMap rob []).length=0 from rfl),List.append_nil]
 | r::l,acc,f+1,h,hl,hf=>by
  rw [List.length_cons] at hl hf;unfold prR;rw [List.flatMap_cons,if_neg (by show (rob r++_).length≠0; rw [List.length_append]; have:=rob_ne r; omega),if_neg (by omega),h r (by simp) _ false];simp only;rw [if_pos (show firstS (l.flatMap rob,0,false)=0 from rfl),pr_all l (acc++[r]) f (fun x hx=>h x (by simp [hx])) (by rw [List.length_append]; simp; omega) (by omega),List.append_assoc];rfl
theorem back_all {l:List Row} (h : ∀ r∈l,Gd r) (hl:l.length<=200):parseR (bytesR l)=(l,0):=by
 have hb:l.all backR=true:=by
  rw [List.all_eq_true];intro r hr;unfold backR;refine decide_eq_true ?_;have:=pr_all [r] [] 202 (fun x hx=>by rw [List.mem_singleton] at hx; rw [hx]; exact h r hr) (by simp) (by simp);unfold parseR;simpa using this
 unfold bytesR;rw [if_neg (by omega),if_pos hb];have:=pr_all l [] 202 h (by simpa using hl) (by omega);unfold parseR;simpa using this
end Go.Proofs.YtoljpfapphoflaaGreatDoor.RdD

set_option maxHeartbeats 1000000
set_option maxRecDepth 512
namespace Go.Proofs.YtoljpfapphoflaaGreatDoor.BxO
open Go.RowKit BxD BxKit BxA
def laid : List (String × DataW Unit) := [("math/bits.deBruijn32tab", Rows.laid_math_bits_deBruijn32tab), ("math/bits.deBruijn64tab", Rows.laid_math_bits_deBruijn64tab), ("internal/strconv.uint64pow10", Rows.laid_internal_strconv_uint64pow10)]
def Tab (w : World) : Prop := Lib.TabIs Tryz.prog w "internal/strconv.uint64pow10" .u64 Lib.pow10Tab
theorem gPow : Tryz.prog.globalNamed "internal/strconv.uint64pow10" = some 1 := by kernel_rfl
theorem tPow:(Tryz.prog.globals[1]?).map (·.type)=some 219:=by kernel_rfl
theorem cArr:Tryz.prog.cellsOf 219=20:=by kernel_rfl
theorem cOne:Tryz.prog.cellsOf 32=1:=by kernel_rfl
theorem powData:Rows.laid_internal_strconv_uint64pow10 (H:=Unit)=Lib.tabData .u64 Lib.pow10Tab:=by kernel_rfl
theorem tab_of_laid {W:World} (h:laidMetH Tryz.prog laid W):Tab W:=by
 rw [MakeChecks.laidMetH_plain _ _ _ (by kernel_rfl)] at h;have h2:=(laidMet.tail (laidMet.tail h));rw [powData] at h2;exact Lib.tabIs_of_head gPow tPow Tryz.underlying219 Tryz.underlying32 cOne cArr h2
theorem Tab.below {B:Nat} {w w':World} (h:Tab w) (hb:Below B w w') (hB:w.heap.size<=B):Tab w':=_root_.Go.Joins.tab_stays gPow h hb hB
theorem below_grow (B:Nat) (w:World) (hB:B<=w.heap.size) (k:Nat) (os:Array Obj):Below B w (Sort.grow (w.drewN k) os):=by
 refine⟨rfl,rfl,rfl, ?_,fun i hi=>?_⟩
 · show w.heap.size<=(w.heap++os).size
   rw [Array.size_append]; omega
 · show (w.heap++os)[i]? = w.heap[i]?
   rw [Array.getElem?_append_left (by omega)]
theorem nDigits_le (k:Nat) : ∀ n:Nat,n<10 ^ (k+1)->Lib.nDigits n<=k+1:=by
 induction k with
 | zero=>intro n h; rw [Lib.nDigits_small (by simpa using h)]; omega
 | succ k ih =>
  intro n h;by_cases hs:n<10
  · rw [Lib.nDigits_small hs]; omega
  · rw [Lib.nDigits_big hs]
    have:=ih (n / 10) (by rw [Nat.div_lt_iff_lt_mul (by decide)]; rw [Nat.pow_succ] at h; exact h);omega
def digs (u:Int):List UInt8:=Lib.itoa (max u 0)
theorem digs_eq (u:Int):digs u=Lib.decDigits (max u 0).toNat:=by
 unfold digs Lib.itoa;rw [if_neg (by omega)]
theorem digs_len {u:Int} (h:u<=9223372036854775807):(digs u).length<=20:=by
 rw [digs_eq,Lib.decDigits_length];exact nDigits_le 19 _ (Nat.lt_of_le_of_lt (show (max u 0).toNat<=9223372036854775807 by omega) (by decide))
theorem own_parts (id:ByteArray) (u:Int):ownT id u=⟨#[101]⟩++⟨(digs u).toArray⟩++⟨#[45]⟩++id:=rfl
theorem itoa_max {u:Int} {w:World} (ht:Tab w) (h:u<=9223372036854775807):Calls Tryz.prog 63 #[.int .i64 (max u 0)] w fun e w'=>e = .returned (.string ⟨(digs u).toArray⟩)/\Below w.heap.size w w' :=
 (Tryz.strconv_Itoa (max u 0) (by omega) (by omega) w ht).mono fun e w' ⟨he,k,os,hw⟩=>⟨he,by rw [hw]; exact below_grow _ _ lr_ _ _⟩
theorem own_any {id:ByteArray} {u:Int} {w:World} (ht:Tab w) (h:u<=9223372036854775807) (hid:id.size<=200) :
 Calls Tryz.prog 168 #[.string id,.int .i64 u] w fun e w'=>e = .returned (.string (ownT id u))/\Below w.heap.size w w':=by
 have C:=itoa_max ht h;have hl:=digs_len h;have HF:=H_ (own_parts id u);obtain⟨D,hD⟩ : ∃ D:ByteArray,D=⟨(digs u).toArray⟩:=⟨_,rfl⟩;have hds:D.size<=20:=by
  rw [hD];show ((digs u).toArray).size<=20;simpa using hl
 rw [<- hD] at C HF;clear hD hl ht h
 skip
 have K:=H_ C;clear C;go_enter Tryz.func168,Tryz.ntmps168;go_wp2_with (go_at_call 63; (refine K.out.mono ?_; rintro e w' ⟨rfl,hb⟩))
 go_ret;exact⟨ret_str HF.out.symm,hb⟩
end Go.Proofs.YtoljpfapphoflaaGreatDoor.BxO

set_option maxRecDepth 512
namespace Go.Proofs.YtoljpfapphoflaaGreatDoor.FoN
open Go.RowKit BxD BxKit BxA BxO
theorem digit_at (u i:Nat) (h:i<Lib.nDigits u):(Lib.decDigits u)[i]? = some (Lib.dg u (Lib.nDigits u-1-i)):=by
 rw [Lib.decDigits_eq,List.getElem?_map,List.getElem?_range h]; rfl
theorem dg_val (u j:Nat):(Lib.dg u j).toNat=48+u / 10 ^ j % 10:=by
 unfold Lib.dg;have:u / 10 ^ j % 10<10:=Nat.mod_lt _ (by decide);rw [UInt8.toNat_ofNat',Nat.mod_eq_of_lt (by omega)]
theorem digit_range (u:Nat) (c:UInt8) (hc:c∈Lib.decDigits u):48<=c.toNat/\c.toNat<=57:=by
 obtain⟨i,hi,e⟩:=List.getElem_of_mem hc;rw [Lib.decDigits_length] at hi;have h1:=digit_at u i hi;rw [List.getElem?_eq_getElem (by rw [Lib.decDigits_length]; exact hi),e] at h1;have h2:=dg_val u (Lib.nDigits u-1-i);have h3:u / 10 ^ (Lib.nDigits u-1-i) % 10<10:=Nat.mod_lt _ (by decide);rw [<- Option.some.inj h1] at h2;omega
def val (l:List UInt8):Nat:=l.foldl (fun n c=>n*10+(c.toNat-48)) 0
theorem own_list (id:ByteArray) {u:Int} (h:0<=u):(ownT id u).data.toList=101::(Lib.decDigits u.toNat++45::id.data.toList):=by
 rw [own_parts,digs_eq,show max u 0=u by omega];simp [ByteArray.data_append]
theorem own_size (id:ByteArray) {u:Int} (h:0<=u) (h2:u<=999999):(ownT id u).size<=8+id.size/\1<=(ownT id u).size:=by
 have h1:(ownT id u).size=(ownT id u).data.toList.length:=by simp
 rw [h1,own_list id h];have:=nDigits_le 5 u.toNat (by omega);simp [Lib.decDigits_length];omega
theorem own_atom {id:ByteArray} {u:Int} (h:0<=u) (h2:u<=999999) (hi:id.size<=12) (ha:atB id=true):atB (ownT id u)=true:=by
 obtain⟨s1,s2⟩:=own_size id h h2;have hc:(ownT id u).data.toList.all atC=true:=by
  rw [own_list id h,List.all_cons,List.all_append,List.all_cons];have h3:(Lib.decDigits u.toNat).all atC=true:=by
   rw [List.all_eq_true];intro c hc;have:=digit_range _ c hc;unfold atC;simp only [Bool.or_eq_true,Bool.and_eq_true,decide_eq_true_eq];exact .inl (.inr this)
  have h4:id.data.toList.all atC=true:=by
   unfold atB at ha;simp only [Bool.and_eq_true] at ha;exact ha.2
  rw [h3,h4]; rfl
 exact atB_good (k:=(ownT id u).size) s2 (by omega) rfl (by rw [List.take_of_length_le (by simp)]; exact hc)
end Go.Proofs.YtoljpfapphoflaaGreatDoor.FoN

set_option maxRecDepth 512
namespace Go.Proofs.YtoljpfapphoflaaGreatDoor.OlP
open Go.RowKit BxD BxOp PkB PkC PkD PkF PkG PkK OlD FoN
theorem mm_parts {n:Nat} {m:Msg} (h:mmB n m=true):(1<=m.uid/\m.uid<=999999)/\(1<=m.mod/\m.mod<=1000000)/\(0<=m.date/\m.date<=1000000)/\atB m.id=true/\(0<=m.flags/\m.flags<=31)/\keysB m.keys n=true/\m.text.size<=300:=by
 unfold mmB at h;simp only [Bool.and_eq_true,decide_eq_true_eq] at h;obtain⟨h1,h2,h3,h4,h5,h6,h7⟩:=h;exact⟨inB_out h1,inB_out h2,inB_out h3,h4,inB_out h5,h6,h7⟩
theorem mm_of {n:Nat} {m:Msg} (h1:1<=m.uid/\m.uid<=999999) (h2:1<=m.mod/\m.mod<=1000000) (h3:0<=m.date/\m.date<=1000000) (h4:atB m.id=true) (h5:0<=m.flags/\m.flags<=31) (h6:keysB m.keys n=true) (h7:m.text.size<=300):mmB n m=true:=by
 unfold mmB;simp only [Bool.and_eq_true,decide_eq_true_eq];exact⟨inB_true h1.1 h1.2,inB_true h2.1 h2.2,inB_true h3.1 h3.2,h4,inB_true h5.1 h5.2,h6,h7⟩
structure Good (b:Box):Prop where
 ida:atB b.id=true
 ids:b.id.size<=12
 val:1<=b.valid/\b.valid<=1000000
 hig:1<=b.high/\b.high<=1000000
 nxt:1<=b.next/\b.next<=1000000
 wl:b.words.length<=64
 ml:b.msgs.length<=60
 ws:wordsB b.words=true
 ms : ∀ m∈b.msgs,okOne b m
 ri:Rises b.msgs
theorem good_of {b:Box} (h:mbE b=0):Good b:=by
 obtain⟨h1,h2,h3,h4⟩:=mb_ok h;unfold headB at h1;simp only [Bool.and_eq_true,decide_eq_true_eq] at h1;obtain⟨a1,a2,a3,a4,a5⟩:=h1;obtain⟨m1,m2⟩:=(msgsB_iff b).1 h4;exact⟨a1,a2,inB_out a3,inB_out a4,inB_out a5,by omega,by omega,h3,m1,m2⟩
theorem good_may {b:Box} (h:Good b):mbE b=0:=by
 refine mb_of ?_ ?_ h.ws ((msgsB_iff b).2 ⟨h.ms,h.ri⟩)
 · unfold headB
   simp only [Bool.and_eq_true,decide_eq_true_eq];exact⟨h.ida,h.ids,inB_true h.val.1 h.val.2,inB_true h.hig.1 h.hig.2,inB_true h.nxt.1 h.nxt.2⟩
 · have:=h.wl; have:=h.ml; omega
theorem wordsB_at {ws:List ByteArray} (h:wordsB ws=true) : ∀ s∈ws,atB s=true:=by
 intro s hs;obtain⟨i,hi⟩:=List.mem_iff_getElem?.1 hs;have:=(of_decide_eq_true h) i (List.getElem?_eq_some_iff.1 hi).1;unfold okW at this;rw [getD_some _ hi] at this;exact this.1
theorem wordsB_take {ws:List ByteArray} (h:wordsB ws=true) (k:Nat):wordsB (ws.take k)=true:=by
 refine decide_eq_true fun i hi=>?_;rw [List.length_take] at hi;have hi2:i<ws.length:=by omega
 have:=(of_decide_eq_true h) i hi2;unfold okW at this ⊢;have e:(ws.take k)[i]? = ws[i]?:=by rw [List.getElem?_take,if_pos (by omega)]
 rw [List.getD_eq_getElem?_getD,e,<- List.getD_eq_getElem?_getD,List.take_take,Nat.min_eq_left (by omega)];exact this
section
variable {cg : Bool}
theorem msg_good {id:ByteArray} {n:Nat} {m:Msg} (h:mmB n m=true) (rest:List UInt8) (ov:Bool):msgS cg id (em cg m++rest,0,ov)=(pm cg id m,(rest,0,ov)):=by
 obtain⟨h1,h2,h3,h4,h5,h6,h7⟩:=mm_parts h;unfold msgS em;simp only [List.append_assoc];have e1:mx m.uid<4294967296:=by unfold mx; omega
 have e2:mx m.date<4294967296:=by unfold mx; omega
 have e3:mx m.mod<4294967296:=by unfold mx; omega
 rw [fix_fx e1];simp only;rw [ch_fx e3];simp only;rw [fix_fx e2];simp only;rw [byte_one];simp only;rw [fix_fx (mask_lt (fun k hk=>((keysB_rise h6).2 k hk).1))];simp only;rw [str_good h7];simp only [keys_mask h6];unfold pm;have q1:((mx m.uid:Nat):Int)=m.uid:=by unfold mx; omega
 have q2:((mx m.date:Nat):Int)=m.date:=by unfold mx; omega
 have q3:(((m.flags.toNat % 256).toUInt8.toNat:Nat):Int)=m.flags:=by rw [toNat_u8 (by omega)]; omega
 have q4:(((if cg then mx m.mod else 1:Nat)):Int)=on1 cg m.mod:=by
  cases cg
  · rfl
  · show ((mx m.mod:Nat):Int)=m.mod
    unfold mx; omega
 rw [q1,q2,q3,q4]
theorem box_good {b:Box} (h:Good b) (rest:List UInt8):boxS cg b.id (ebR cg b++rest,0,false)=(pb cg b,(rest,0,false)):=by
 unfold boxS ebR;simp only [List.append_assoc];have e1:mx b.valid<4294967296:=by have:=h.val; unfold mx; omega
 have e2:mx b.next<4294967296:=by have:=h.nxt; unfold mx; omega
 have e3:mx b.high<4294967296:=by have:=h.hig; unfold mx; omega
 rw [fix_fx e1];simp only;rw [fix_fx e2];simp only;rw [ch_fx e3];simp only;rw [cnt_fx (show min b.words.length 32<=32 by omega) (by decide)];simp only;rw [it_all (f:=txtS 24) (enc:=tx) (val:=fun s=>s) (xs:=b.words.take 32) (ov:=false) (fun s hs r=>txt_tx (atB_size (wordsB_at h.ws s (List.mem_of_mem_take hs))).2 r false) _ (by rw [List.length_take]; omega)];simp only;rw [cnt_fx h.ml (by decide)];simp only;rw [it_all (f:=msgS cg b.id) (enc:=em cg) (val:=pm cg b.id) (xs:=b.msgs) (ov:=false) (fun m hm r=>msg_good (h.ms m hm).1 r false) _ rfl];unfold pb;have q1:((mx b.valid:Nat):Int)=b.valid:=by have:=h.val; unfold mx; omega
 have q2:((mx b.next:Nat):Int)=b.next:=by have:=h.nxt; unfold mx; omega
 have q4:(((if cg then mx b.high else 1:Nat)):Int)=on1 cg b.high:=by
  cases cg
  · rfl
  · show ((mx b.high:Nat):Int)=b.high
    have:=h.hig;unfold mx; omega
 simp only [q1,q2,q4,List.map_id']
theorem pb_good {b:Box} (h:Good b):Good (pb cg b):=by
 have hon : ∀ x:Int,1<=x/\x<=1000000->1<=on1 cg x/\on1 cg x<=1000000:=fun x hx=>by
  cases cg
  · exact⟨by show (1:Int)<=1; decide,by show (1:Int)<=1000000; decide⟩
  · exact hx
 refine⟨h.ida,h.ids,h.val,hon _ h.hig,h.nxt, ?_, ?_,wordsB_take h.ws 32, ?_, ?_⟩
 · show (b.words.take 32).length<=64
   rw [List.length_take]; omega
 · show (b.msgs.map (pm cg b.id)).length<=60
   rw [List.length_map]; exact h.ml
 · intro m hm
   obtain⟨m0,hm0,rfl⟩:=List.mem_map.1 hm;obtain⟨o1,o2,o3⟩:=h.ms m0 hm0;obtain⟨h1,h2,h3,h4,h5,h6,h7⟩:=mm_parts o1;have hmod:on1 cg m0.mod<=on1 cg b.high:=by
    cases cg
    · show (1:Int)<=1; decide
    · exact o3
   refine⟨mm_of h1 (hon _ h2) h3 (own_atom (by omega) (by omega) h.ids h.ida) h5 ?_ h7,o2,hmod⟩;obtain⟨r1,r2⟩:=keysB_rise h6;refine keysB_of (r1.filter _) fun k hk=>?_
   replace hk:k∈m0.keys.filter (fun k=>decide (k<32)):=hk
   rw [List.mem_filter] at hk;have:=r2 k hk.1;have h32:k<32:=of_decide_eq_true hk.2;refine⟨this.1, ?_⟩;show k<((b.words.take 32).length:Nat);rw [List.length_take];omega
 · show Rises (b.msgs.map (pm cg b.id))
   unfold Rises;rw [List.pairwise_map];exact h.ri
theorem take_mk (l:List UInt8):(mk cg++l).take 3=mk cg:=by cases cg <;> rfl
theorem drop_mk (l:List UInt8):(mk cg++l).drop 3=l:=by cases cg <;> rfl
theorem parse_good {b:Box} (h:mbE b=0):parseS cg (eb cg b) b.id=(pb cg b,0):=by
 have g:=good_of h;unfold parseS eb;rw [take_mk,if_pos rfl,drop_mk];have:=box_good (cg:=cg) g [];rw [List.append_nil] at this;rw [this];simp only [firstS];rw [if_neg (by simp),if_neg (by simp [good_may (pb_good g)])]
end
end Go.Proofs.YtoljpfapphoflaaGreatDoor.OlP

set_option maxHeartbeats 4000000
set_option maxRecDepth 512
namespace Go.Proofs.YtoljpfapphoflaaGreatDoor.BxCp
open Go.RowKit BxD BxKit BxA BxR BxC
theorem below_none {w w':World} (h:w.grownBy w' none):Below w.heap.size w w':=⟨h.os,h.tape,h.output,h.size,fun k hk=>h.block k hk (by simp)⟩
set_option maxRecDepth 100000 in
theorem copy_any {bid:ByteArray} {bv bn bh:Int} {WA MA:Option Addr} {wn wc mn mcp B0:Nat} {ws:List ByteArray} {ms:List Msg} {w:World} (hx:StrsAt w B0 WA wn ws) (hm:MsgsAt w B0 MA mn ms) (hB:B0<=w.heap.size) (hwn:wn<=100) (hmn:mn<=100) (hk : ∀ m∈ms,m.keys.length<=60000) :
 Calls Tryz.prog 68 #[.agg #[.string bid,.int .i64 bv,.int .i64 bn,.int .i64 bh,.slice WA wn wc,.slice MA mn mcp]] w (CpPost bid bv bn bh wn mn ws ms w):=by
 have P0:=H_ (PI.start bid bv bn bh w (.slice WA wn wc) (.slice MA mn mcp));have HX:=H_ (StrsAt.below hx P0.out.bel hB);have HM:=H_ hm;have HK:=H_ hk;clear hx hm hk;go_enter Tryz.func68,Tryz.ntmps68;go_upto_region 2 with (first
  | (at_builtin
     refine wpList_rows elS rfl _ _ rfl rfl rfl (World.ownsRow_nil _ (w.heap.size+2) _ _) (strs_src HX.out) (by unfold maxLen; omega) (by omega) P0.out.size ?_;intro v1 w1 hown hg _;obtain⟨A1,k1,rfl,hk1⟩:=own_slice hown;rw [Nat.zero_add,List.nil_append] at hown;have P1:=H_ (P0.out.go (below_none hg));have HO:=H_ hown;clear hown hg;obtain⟨c0,c1,c2,c3,c4,c5⟩:=P1.out.cells;have c6:=P1.out.free 4))
 have hp:=P1.out.set4 (.slice A1 (0+wn) k1);have ho:=ownsRow_setCell_below HO.out (a:=⟨w.heap.size,4,none⟩) (by show w.heap.size<_; omega) (.slice A1 (0+wn) k1);rw [Nat.zero_add] at hp ho;have P2:=H_ hp;have HO2:=H_ ho;clear hp ho c0 c1 c2 c3 c4 c5 c6 HO P1 P0 HX;generalize (World.setCell w1 _ _)=w2 at P2 HO2 ⊢;obtain⟨rs,hrm,hko,hsr⟩:=msgs_raw (MsgsAt.below HM.out P2.out.bel hB);have HR:=H_ hrm;have HKO:=H_ hko;have HSR:=H_ hsr;clear hrm hko hsr;obtain⟨c0,c1,c2,c3,c4,c5⟩:=P2.out.cells;go_upto_region 3 with (first
  | (at_builtin
     refine wpList_rows elM rfl _ _ rfl rfl rfl (World.ownsRow_nil _ (w.heap.size+2) _ _) HSR.out (by unfold maxLen; omega) (by omega) P2.out.size ?_;intro v3 w3 hown hg _;obtain⟨A2,k2,rfl,hk2⟩:=own_slice hown;rw [Nat.zero_add,List.nil_append] at hown;have P3:=H_ (P2.out.go (below_none hg));have HB3:=H_ (below_none hg);have HO3:=H_ hown;clear hown hg c0 c1 c2 c3 c4 c5;obtain⟨c0,c1,c2,c3,c4,c5⟩:=P3.out.cells;have c6:=P3.out.free 5))
 have hI:=CI.first P2.out HO2.out HR.out HKO.out hB HB3.out HO3.out;have HI:=H_ hI;clear hI c0 c1 c2 c3 c4 c5 c6 P2 HO2 P3 HO3 HB3 HR HKO HSR HM;generalize hW:(World.setCell w3 _ _)=w4 at HI ⊢;clear hW;obtain⟨c0,c1,c2,c3,c4,c5⟩:=HI.out.pi.cells;go_wp2_with fail
 go_loopw [15] (fun s15 wr=>∃ (k:Nat) (rs':List Raw),k<=mn/\s15 = .int .i64 k/\Hid (CI bid bv bn bh w wr B0 k (.slice A1 wn k1) (.slice A2 mn k2) wn mn ws ms rs')) (fun s15 _=>mn-(intOf s15).toNat)
 case atStart=>exact⟨0,rs,Nat.zero_le _,rfl,HI⟩
 case round =>
  clear HI c0 c1 c2 c3 c4 c5;obtain⟨k,rs',hk,rfl,HI⟩:=hrel;by_cases hlt:k<mn
  · obtain⟨c0,c1,c2,c3,c4,c5⟩:=HI.out.pi.cells
    have hlen:=HI.out.len;obtain⟨g,cap,hA,_,_⟩:=own_form HI.out.om (by omega);injection hA with hA1 hA2 hA3;subst hA1 hA3;have hg:k<rs'.length:=by omega
    have hr:=List.getElem?_eq_getElem hg;generalize rs'[k]=r at hr;have hco:wr.cell? ⟨g,k*7+5,none⟩ = some (.slice r.K r.m.keys.length r.c):=own_cell HI.out.om rfl ((mc_get rs' k 5 r hr (by decide)).trans rfl);have hfr:wr.frozen? ⟨g,k*7+5,none⟩ = false:=own_free HI.out.om rfl _;have h6:r.m.keys.length<=60000:=HK.out r.m (by rw [<- HI.out.rm]; exact List.mem_map_of_mem (List.mem_of_getElem? hr));have HS:=H_ (ints_src (HI.out.old k r lr_ hr));have HD:=H_ (Below.drew (Below.refl wr.heap.size wr));have HRR:=H_ hr;clear hr hlen;generalize hks:r.m.keys.length=kl at hco h6 HS;go_upto_region 6 with fail
    go_region_law (first
     | (refine step_rows elI rfl _ _ rfl rfl rfl (World.ownsRow_nil _ wr.heap.size _ _) HS.out (by unfold maxLen; omega) (by omega) lr_ ?_
        intro v5 w5 hown hg5 _;have hb5:Below wr.heap.size wr w5:=HD.out.trans (below_none hg5);obtain⟨A5,k5,rfl,hk5⟩:=own_slice hown;rw [Nat.zero_add,List.nil_append] at hown;have HO5:=H_ hown;have HB5:=H_ hb5;have H5:=H_ (HI.out.go hB hb5);obtain⟨_,_,_,_,_,e5⟩:=H5.out.pi.cells;have eco:w5.cell? ⟨g,k*7+5,none⟩ = some (.slice r.K kl r.c):=(hb5.cell (p:=⟨g,k*7+5,none⟩) (HI.out.om.lt g rfl).2).trans hco;have efr:w5.frozen? ⟨g,k*7+5,none⟩ = false:=own_free H5.out.om rfl _;have es5 : ∀ u,(w5.setCell ⟨g,k*7+5,none⟩ u).cell? ⟨w.heap.size,5,none⟩ = some (.slice (some ⟨g,0,none⟩) mn k2):=fun u=>(World.cell?_of_block (w:=w5) (a:=⟨w.heap.size,5,none⟩) (Below.heap_setCell _ _ _ _ (by have:=(HI.out.om.lt g rfl).1; show w.heap.size≠g; omega))).trans e5;clear hown hb5 hg5))
    all_goals
     have hN:=HI.out.step (c':=k5) (K':=A5) hB rfl HRR.out HB5.out (by rw [hks]; exact HO5.out);rw [hks] at hN;have HN:=H_ hN;clear hN c0 c1 c2 c3 c4 c5 e5 eco efr es5 hco hfr HO5 HB5 H5 HI;go_wp2_with fail
     go_roundw
     case rel=>exact⟨k+1,_,by omega,by go_num,HN⟩
     case measure=>simp [intOf]; omega
  · obtain rfl:mn=k:=by omega
    obtain⟨c0,c1,c2,c3,c4,c5⟩:=HI.out.pi.cells;obtain⟨d0,d1,d2,d3,d4,d5,f0,f1,f2,f3,f4,f5⟩:=HI.out.pi.room;go_wp2_with fail
    obtain⟨W,hW,q0,q1,q2,q3,q4,q5,hWb,hWo⟩:=HI.out.pi.ret;rw [<- hW];refine bodyPost_ret (v:=.agg #[.string bid,.int .i64 bv,.int .i64 bn,.int .i64 bh,.slice A1 wn k1,.slice A2 mn k2]) (by simp [results,Tryz.results68,go_sem,q0,q1,q2,q3,q4,q5]) rfl ?_;exact HI.out.post lr_ hWb hWo
end Go.Proofs.YtoljpfapphoflaaGreatDoor.BxCp
