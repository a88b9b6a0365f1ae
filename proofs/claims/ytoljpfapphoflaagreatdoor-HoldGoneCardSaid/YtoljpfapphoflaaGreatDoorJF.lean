/-
  BxH + BxLaw
-/
import Derived.Test.YtoljpfapphoflaaGreatDoorBxA
import Derived.WalkKit
import Derived.ProofKit
import Derived.OpenShut
import Derived.Carry
import Derived.Deep.Slices
import Derived.Deep.Fields
import Derived.ChangeSame
import Derived.SizedLaws
import Derived.LaidMore
import Derived.Stop.Joined
import Derived.SevenTiedAt
import Derived.Test.YtoljpfapphoflaaGreatDoorCards
import Derived.Test.YtoljpfapphoflaaGreatDoorTie
import Derived.Test.YtoljpfapphoflaaGreatDoorZ9
set_option linter.unusedVariables false
set_option linter.unusedSimpArgs false
set_option maxHeartbeats 2000000
set_option maxRecDepth 100000
namespace Go.Proofs.YtoljpfapphoflaaGreatDoor.BxH
open Go.RowKit BxD BxKit BxA
def wSum (ws:List ByteArray):Nat:=(ws.map ByteArray.size).sum
def mSum (ms:List Msg):Nat:=(ms.map fun m=>m.keys.length+m.text.size+m.id.size).sum
theorem wSum_snoc {ws:List ByteArray} {k:Nat} {x:ByteArray} (h:ws[k]? = some x):wSum (ws.take (k+1))=wSum (ws.take k)+x.size:=by
 obtain⟨hl,rfl⟩:=List.getElem?_eq_some_iff.1 h;unfold wSum;rw [List.take_succ_eq_append_getElem hl,List.map_append,List.sum_append];simp only [List.map_cons,List.map_nil,List.sum_cons,List.sum_nil,Nat.add_zero]
theorem mSum_snoc {ms:List Msg} {k:Nat} {m:Msg} (h:ms[k]? = some m):mSum (ms.take (k+1))=mSum (ms.take k)+(m.keys.length+m.text.size+m.id.size):=by
 obtain⟨hl,rfl⟩:=List.getElem?_eq_some_iff.1 h;unfold mSum;rw [List.take_succ_eq_append_getElem hl,List.map_append,List.sum_append];simp only [List.map_cons,List.map_nil,List.sum_cons,List.sum_nil,Nat.add_zero]
theorem mSum_ge {ms:List Msg} {m:Msg} (h:m∈ms):m.keys.length+m.text.size+m.id.size<=mSum ms:=by
 unfold mSum;induction ms with
 | nil=>cases h
 | cons a r ih =>
  rw [List.map_cons,List.sum_cons];rcases List.mem_cons.1 h with rfl | h
  · omega
  · have:=ih h; omega
def big (bid:ByteArray) (ws:List ByteArray) (ms:List Msg):Prop:=60000<bid.size+ws.length+ms.length+wSum ws+mSum ms\/100<ws.length\/100<ms.length
instance big_dec (bid:ByteArray) (ws:List ByteArray) (ms:List Msg):Decidable (big bid ws ms):=inferInstanceAs (Decidable (_\/_))
def hv (bid:ByteArray) (ws:List ByteArray) (ms:List Msg):Int:=if big bid ws ms then 1 else 0
theorem hv_or (bid:ByteArray) (ws:List ByteArray) (ms:List Msg):hv bid ws ms=1\/(hv bid ws ms=0/\ws.length<=100/\ms.length<=100/\∀ m∈ms,m.keys.length<=60000):=by
 unfold hv;by_cases h:big bid ws ms
 · exact .inl (if_pos h)
 · unfold big at h
   refine .inr ⟨if_neg h,by omega,by omega,fun m hm=>?_⟩;have:=mSum_ge hm;omega
theorem hv_one {bid:ByteArray} {ws:List ByteArray} {ms:List Msg} (h:big bid ws ms):hv bid ws ms=1:=if_pos h
theorem hv_zero {bid:ByteArray} {ws:List ByteArray} {ms:List Msg} (h : ¬ big bid ws ms):hv bid ws ms=0:=if_neg h
theorem heavy_big {bid:ByteArray} {bv bn bh:Int} {WA MA:Option Addr} {wn wc mn mc B0 B1:Nat} {ws:List ByteArray} {ms:List Msg} {w:World} (hx:StrsAt w B0 WA wn ws) (hm:MsgsAt w B1 MA mn ms) (hB:B0<=w.heap.size) (hB1:B1<=w.heap.size) (hbig:100<wn\/100<mn) :
 Calls Tryz.prog 7 #[.agg #[.string bid,.int .i64 bv,.int .i64 bn,.int .i64 bh,.slice WA wn wc,.slice MA mn mc]] w fun e w'=>e = .returned (.int .i64 1)/\Below w.heap.size w w':=by
 have HX:=H_ hx;have HM:=H_ hm;have hwn:=hx.max;have hmn:=hm.max;clear hx hm;go_enter Tryz.func7,Tryz.ntmps7;go_wp2_with fail
 have HS:=H_ (After.start w (.cells #[.string bid,.int .i64 bv,.int .i64 bn,.int .i64 bh,.slice WA wn wc,.slice MA mn mc] 25));go_loopw [3,22] (fun s3 s22 wr=>∃ k:Nat,k<=wn/\s22 = .int .i64 k/\(∃ z:Int,s3 = .int .i64 z)/\Hid (After w (.cells #[.string bid,.int .i64 bv,.int .i64 bn,.int .i64 bh,.slice WA wn wc,.slice MA mn mc] 25) wr)) (fun _ s22 _=>wn-(intOf s22).toNat)
 case atStart=>exact⟨0,Nat.zero_le _,rfl,⟨_,rfl⟩,HS⟩
 case round =>
  obtain⟨k,hk,rfl,⟨z,rfl⟩,HA⟩:=hrel;by_cases hlt:k<wn
  · obtain⟨ad1,x1,rfl,e1,hc1⟩:=StrsAt.at_ HX.out HA.out.below hB hlt
    clear e1;go_wp2_with fail
    go_roundw
    case rel=>exact⟨k+1,by omega,by go_num,⟨_,rfl⟩,HA⟩
    case measure=>simp [intOf]; omega
  · obtain rfl:wn=k:=by omega
    obtain⟨b0,b1,b2,b3,b4,b5⟩:=HA.out.box;go_wp2_with fail
    clear b0 b1 b2 b3 b4 b5;go_loopw [3,34] (fun s3 s34 wr=>∃ k:Nat,k<=mn/\s34 = .int .i64 k/\(∃ z:Int,s3 = .int .i64 z)/\Hid (After w (.cells #[.string bid,.int .i64 bv,.int .i64 bn,.int .i64 bh,.slice WA wn wc,.slice MA mn mc] 25) wr)) (fun _ s34 _=>mn-(intOf s34).toNat)
    case atStart=>exact⟨0,Nat.zero_le _,rfl,⟨_,rfl⟩,HA⟩
    case round =>
     obtain⟨k2,hk2,rfl,⟨z,rfl⟩,HA⟩:=hrel;by_cases hlt:k2<mn
     · obtain⟨ad,u,md,d,id,fl,ks,tx,K,kn,kc,rfl,hab,e1,c0,c1,c2,c3,c4,c5,c6,_,_,_,_⟩:=MsgsAt.sp HM.out HA.out.below hB1 hlt
       have HC:=H_ (fun o=>HA.out.alloc o);clear e1;go_wp2_with fail
       go_roundw
       case rel=>exact⟨k2+1,by omega,by go_num,⟨_,rfl⟩,HC.out _⟩
       case measure=>simp [intOf]; omega
     · obtain rfl:mn=k2:=by omega
       obtain⟨b0,b1,b2,b3,b4,b5⟩:=HA.out.box;by_cases hz:60000<z
       · go_wp2_with fail
         go_ret;exact⟨rfl,HA.out.below⟩
       have hz':z<=60000:=by omega
       clear hz;by_cases hw:100<(wn:Int)
       · go_wp2_with fail
         go_ret;exact⟨rfl,HA.out.below⟩
       have hw':(wn:Int)<=100:=by omega
       have hm':100<(mn:Int):=by omega
       clear hw hbig;go_wp2_with fail
       go_ret;exact⟨rfl,HA.out.below⟩
theorem heavy_small {bid:ByteArray} {bv bn bh:Int} {WA MA:Option Addr} {wn wc mn mc B0 B1:Nat} {ws:List ByteArray} {ms:List Msg} {w:World} (hx:StrsAt w B0 WA wn ws) (hm:MsgsAt w B1 MA mn ms) (hB:B0<=w.heap.size) (hB1:B1<=w.heap.size) (hbid:bid.size<=140737488355328) (hw:wn<=100) (hmm:mn<=100) :
 Calls Tryz.prog 7 #[.agg #[.string bid,.int .i64 bv,.int .i64 bn,.int .i64 bh,.slice WA wn wc,.slice MA mn mc]] w fun e w'=>e = .returned (.int .i64 (hv bid ws ms))/\Below w.heap.size w w':=by
 have HX:=H_ hx;have HM:=H_ hm;clear hx hm;go_enter Tryz.func7,Tryz.ntmps7;go_wp2_with fail
 have HS:=H_ (After.start w (.cells #[.string bid,.int .i64 bv,.int .i64 bn,.int .i64 bh,.slice WA wn wc,.slice MA mn mc] 25));go_loopw [3,22] (fun s3 s22 wr=>∃ k:Nat,k<=wn/\s22 = .int .i64 k/\(∃ z:Nat,s3 = .int .i64 z/\z<=140737488355528+k*140737488355328/\Hid (z=bid.size+wn+mn+wSum (ws.take k)))/\Hid (After w (.cells #[.string bid,.int .i64 bv,.int .i64 bn,.int .i64 bh,.slice WA wn wc,.slice MA mn mc] 25) wr)) (fun _ s22 _=>wn-(intOf s22).toNat)
 case atStart=>exact⟨0,Nat.zero_le _,rfl,⟨bid.size+wn+mn,by simp only [Int.natCast_add],by omega,rfl⟩,HS⟩
 case round =>
  obtain⟨k,hk,rfl,⟨z,rfl,hz,HZ⟩,HA⟩:=hrel;by_cases hlt:k<wn
  · obtain⟨ad1,x1,hx1,hsz,e1,hcc,hsx⟩:=(HX.out).get hlt
    obtain⟨ad1,x2,rfl,e2,hc1⟩:=StrsAt.at_ HX.out HA.out.below hB hlt;rw [e2] at e1;injection e1 with e1;subst e1;have HE:=H_ (show z+x2.size=bid.size+wn+mn+wSum (ws.take (k+1)) by rw [wSum_snoc e2,HZ.out]; omega);clear e2 hx1 hcc hsz;go_wp2_with fail
    go_roundw
    case rel=>exact⟨k+1,by omega,by go_num,⟨z+x2.size,by simp only [Int.natCast_add],by omega,HE⟩,HA⟩
    case measure=>simp [intOf]; omega
  · obtain rfl:wn=k:=by omega
    obtain⟨b0,b1,b2,b3,b4,b5⟩:=HA.out.box;go_wp2_with fail
    clear b0 b1 b2 b3 b4 b5;go_loopw [3,34] (fun s3 s34 wr=>∃ k:Nat,k<=mn/\s34 = .int .i64 k/\(∃ z:Nat,s3 = .int .i64 z/\z<=14214486323888328+k*422212465065984/\Hid (z=bid.size+wn+mn+wSum ws+mSum (ms.take k)))/\Hid (After w (.cells #[.string bid,.int .i64 bv,.int .i64 bn,.int .i64 bh,.slice WA wn wc,.slice MA mn mc] 25) wr)) (fun _ s34 _=>mn-(intOf s34).toNat)
    case atStart =>
     have h0:z<=14214486323888328:=by
      have:=Nat.mul_le_mul_right 140737488355328 hw;exact Nat.le_trans hz (Nat.le_trans (Nat.add_le_add_left this _) (by decide))
     have h1:z<=14214486323888328+0*422212465065984:=Nat.le_trans h0 (Nat.le_add_right _ _);have h2:z=bid.size+wn+mn+wSum ws+mSum (ms.take 0):=by
      have h:=HZ.out;rw [take_len HX.out.len] at h;exact h
     exact⟨0,Nat.zero_le _,rfl,⟨z,rfl,h1,h2⟩,HA⟩
    case round =>
     clear hz;obtain⟨k2,hk2,rfl,⟨z,rfl,hz,HZ⟩,HA⟩:=hrel;by_cases hlt:k2<mn
     · obtain⟨ad,u,md,d,id,fl,ks,tx,K,kn,kc,rfl,hab,e1,c0,c1,c2,c3,c4,c5,c6,_,hks,hi1,hi2⟩:=MsgsAt.sp HM.out HA.out.below hB1 hlt
       have HC:=H_ (fun o=>HA.out.alloc o);have hkn:=hks.max;have HE:=H_ (show z+(kn+tx.size+id.size)=bid.size+wn+mn+wSum ws+mSum (ms.take (k2+1)) by rw [mSum_snoc e1]; have:=HZ.out; have:=hks.len; simp only; omega);clear e1 hks;go_wp2_with fail
       go_roundw
       case rel=>exact⟨k2+1,by omega,by go_num,⟨z+(kn+tx.size+id.size),by simp only [Int.natCast_add],by omega,HE⟩,HC.out _⟩
       case measure=>simp [intOf]; omega
     · obtain rfl:mn=k2:=by omega
       obtain⟨b0,b1,b2,b3,b4,b5⟩:=HA.out.box;have hw':(wn:Int)<=100:=by omega
       have hm':(mn:Int)<=100:=by omega
       by_cases hzz:60000<(z:Int)
       · have HF:=H_ (hv_one (bid:=bid) (ws:=ws) (ms:=ms) (.inl (by have:=HZ.out; rw [take_len HM.out.len] at this; have:=HX.out.len; have:=HM.out.len; omega)))
         go_wp2_with fail
         go_ret;exact⟨ret_int HF.out.symm,HA.out.below⟩
       have HF:=H_ (hv_zero (bid:=bid) (ws:=ws) (ms:=ms) (fun h=>by
        have h1:=HZ.out;rw [take_len HM.out.len] at h1;have:=HX.out.len;have:=HM.out.len;rcases h with h | h | h <;> omega))
       have hzz':(z:Int)<=60000:=by omega
       clear hzz;go_wp2_with fail
       go_ret;exact⟨ret_int HF.out.symm,HA.out.below⟩
theorem heavy_any {bid:ByteArray} {bv bn bh:Int} {WA MA:Option Addr} {wn wc mn mc B0 B1:Nat} {ws:List ByteArray} {ms:List Msg} {w:World} (hx:StrsAt w B0 WA wn ws) (hm:MsgsAt w B1 MA mn ms) (hB:B0<=w.heap.size) (hB1:B1<=w.heap.size) (hbid:bid.size<=140737488355328) :
 Calls Tryz.prog 7 #[.agg #[.string bid,.int .i64 bv,.int .i64 bn,.int .i64 bh,.slice WA wn wc,.slice MA mn mc]] w fun e w'=>e = .returned (.int .i64 (hv bid ws ms))/\Below w.heap.size w w':=by
 by_cases h:100<wn\/100<mn
 · rw [hv_one (bid:=bid) (.inr (by rw [hx.len,hm.len]; exact h))]
   exact heavy_big hx hm hB hB1 h
 · exact heavy_small hx hm hB hB1 hbid (by omega) (by omega)
end Go.Proofs.YtoljpfapphoflaaGreatDoor.BxH

set_option maxRecDepth 100000
namespace Go.Proofs.YtoljpfapphoflaaGreatDoor.BxLaw
open Go.ChangeShapes Go.WideShapes Go.ChangeAt Go.WideMaps Go.WideElems Go.RowKit Go.Deep BxD BxKit BxO
theorem own:ownKnob Tryz.prog.godebug=none:=by kernel_rfl
theorem laidOut:laidOutB Tryz.prog=true:=by kernel_rfl
theorem trodAll_kept {H:Type} {enc:TypeId × Value->H} {P:Program} (hl:laidOutB P=true) {W W':World} (hb:Below W.heap.size W W') : ∀ (ts:List TypeId) (vs:List Value) (ds:List (DataW H)) (ps:List MemPlace),
 ts.all (fun t=>P.readableRec t&&decide (t<P.types.size))=true->(∀ p∈ps,p.block<W.heap.size)->DataW.TrodAll enc P W 0 (fun _=>true) true ts vs ds ps ->
 DataW.TrodAll enc P W' 0 (fun b=>decide (b<W.heap.size)) true ts vs ds ps
 | [],[],[],ps,_,_,h=>h
 | t::ts,v::vs,d::ds,ps,ht,hlt,h=>by
  obtain⟨p,q,h1,h2,rfl⟩:=h;simp only [List.all_cons,Bool.and_eq_true,decide_eq_true_eq] at ht;refine⟨p,q,Below.trod hl ht.1.1 ht.1.2 h1 hb (fun x hx=>hlt x (List.mem_append_left _ hx)),trodAll_kept hl hb ts vs ds q ht.2 (fun x hx=>hlt x (List.mem_append_right _ hx)) h2,rfl⟩
 | [],_::_,_,_,_,_,h=>h.elim
 | [],[],_::_,_,_,_,h=>h.elim
 | _::_,[],_,_,_,_,h=>h.elim
 | _::_,_::_,[],_,_,_,h=>h.elim
theorem law_post {H:Type} {enc:TypeId × Value->H} {f:Func} {s:ChangeSpec} {W W':World} {args:Array Value} {ds gs:List (DataW H)} {before:List MemPlace}
 (hp:f.params.toList.all (fun t=>Tryz.prog.readableRec t&&decide (t<Tryz.prog.types.size))=true) (hres:f.resultTypes = #[4]) (hvars:s.vars=[])
 (hW:DataW.Whole enc Tryz.prog f.params.toList s.vars false W args.toList ds gs before)
 (hr:(s.fn H (ds++gs)).results=[.lit (.bool true)]) (ha:(s.fn H (ds++gs)).args=ds) (hv:(s.fn H (ds++gs)).vars=[]) (hb:Below W.heap.size W W') :
 s.post enc Tryz.prog f false true false false W args (.bool true) W':=by
 have hlt : ∀ p∈before,p.block<W.heap.size:=fun p hp=>hW.lt p hp;have hW':=hW;obtain⟨p,q,hA,hV,rfl,hz,hn⟩:=hW;rw [hvars] at hV;obtain⟨rfl,rfl⟩:=trodVars_none hV;refine⟨ds,[],p++[],[],p,[],hW', ?_, ?_, ?_, ?_,fun h=>by cases h⟩
 · rw [hr,hres]
   exact trodAll_cons_mk (shut_bool Tryz.underlying4 _) trodAll_mk0
 · rw [ha]
   exact trodAll_kept laidOut hb _ _ _ _ hp (fun x hx=>hlt x (List.mem_append_left _ hx)) hA
 · rw [hv,hvars]; rfl
 · refine World.keptBut_mono (fun x hx=>?_) (hb.frame (· ∈ p++[]))
   exact⟨hx,.inr (.inl (by simpa using hx))⟩
theorem door_met (os:Os) (args:Array Value):laidMetH Tryz.prog laid ((World.doorLaid Tryz.prog 400 os).forCall (fun _ _=>0) ⟨#[],args,[]⟩).memory :=
 laidMetH_of_parts3 (fuel:=8) (laidMet_of_run' 8 (by kernel_rfl) (by kernel_rfl)) (by kernel_rfl) (by kernel_rfl)
theorem reach_le:reachBytes<=140737488355328:=by decide
def Small {H:Type} (t:TypeId) (d:DataW H):Prop:=∀ k∈d.weights Tryz.prog t,k<=140737488355328
theorem small_of {H:Type} {ts:List TypeId} {ds:List (DataW H)} (h:(DataW.weightsEach Tryz.prog ts ds).all (·<=reachBytes)=true) {j:Nat} {t:TypeId} {d:DataW H} (ht:ts[j]? = some t) (hd:ds[j]? = some d):Small t d:=by
 intro k hk;have:=List.all_eq_true.1 h _ (DataW.weights_mem_each ht hd k hk);exact Nat.le_trans (by simpa using this) reach_le
theorem weights_mem_all {H:Type} {e:TypeId} {d:DataW H} {k:Nat} (hk:k∈d.weights Tryz.prog e) : ∀ {l:List (DataW H)},d∈l->k∈DataW.weightsAll Tryz.prog e l
 | x::l,h=>by
  simp only [DataW.weightsAll,List.mem_append];rcases List.mem_cons.1 h with rfl | h
  · exact .inl hk
  · exact .inr (weights_mem_all hk h)
section
variable {H : Type} {enc : TypeId × Value -> H} {W : World}
abbrev Rd (enc:TypeId × Value->H) (W:World) (n:Nat) (t:TypeId) (cs:List Value) (x:DataW H × List MemPlace):Prop:=DataW.trod enc Tryz.prog W 0 (fun _=>true) true n t cs=some x
theorem fields_of {t:TypeId} {fs:Array Field} {fuel:Nat} {cs:List Value} {x:DataW H × List MemPlace} (ht:Tryz.prog.underlying t=some (.struct fs)) (hone:oneCellFields Tryz.prog fs=true) (hC:Tryz.prog.cellsOf t=fs.size) (h:Rd enc W fuel t cs x) (hs:Small t x.1) :
 cs.length=fs.size/\∀ (j:Nat) (f:Field),fs[j]? = some f->∃ (n:Nat) (v:Value) (y:DataW H × List MemPlace),cs[j]? = some v/\Rd enc W n f.type [v] y/\Small f.type y.1:=by
 obtain⟨ys,n',_,hy,hlen,hyl,hf⟩:=DataW.trod_struct ht h;refine⟨hlen.trans hC,fun j f hj=>?_⟩;obtain⟨ho,hk⟩:=hone_of hone j f hj;have hjl:j<fs.size:=(gs_ hj).1;have hv:cs[j]? = some (cs[j]'(by omega)):=List.getElem?_eq_getElem (by omega);have h1:=hf j f hj;rw [ho,hk] at h1;have hone':(cs.drop j).take 1=[cs[j]'(by omega)]:=by
  rw [List.drop_eq_getElem_cons (by omega)];rfl
 rw [hone'] at h1;have hys:ys[j]? = some (ys[j]'(by omega)):=List.getElem?_eq_getElem (by omega);refine⟨n',_,_,hv,h1.trans hys,fun k hk=>?_⟩;refine hs k ?_;rw [hy];show k∈DataW.weights Tryz.prog t (.agg _);unfold DataW.weights;rw [ht];refine DataW.weights_mem_each (j:=j) (by rw [List.getElem?_map,Array.getElem?_toList,hj]; rfl) (by rw [List.getElem?_map,hys]; rfl) k hk
instance msg_inh:Inhabited Msg:=⟨⟨0,0,0,⟨#[]⟩,0,[],⟨#[]⟩⟩⟩
theorem open_row {α:Type} [Inhabited α] {C:World->Nat->Addr->α->Prop} {t e:TypeId} {sz:Nat} (ht:Tryz.prog.underlying t=some (.slice e)) (hC:Tryz.prog.cellsOf e=sz) (hsz:0<sz) (hby:1<=Tryz.prog.bytesOf e)
 (elem : ∀ (n:Nat) (cs:List Value) (x:DataW H × List MemPlace) (p:Addr),cs.length=sz->(∀ i,i<sz->W.cell? (p.add i)=cs[i]?)->Rd enc W n e cs x->Small e x.1->∃ y,C W W.heap.size p y)
 {fuel:Nat} {cs:List Value} {x:DataW H × List MemPlace} (h:Rd enc W fuel t cs x) (hs:Small t x.1) : ∃ A n c l,cs=[.slice A n c]/\n<=c/\RowAt C sz W W.heap.size A n l:=by
 rcases open_slice ht h with⟨rfl,rfl⟩ | ⟨a,len,cap,m,n,D,Pl,rfl,_,hl,hm,hmm,rfl,hi⟩
 · exact⟨none,0,0,[],rfl,Nat.le_refl _,RowAt.nil _ _ _ _ _⟩
 · simp only [if_true] at hmm
   have hlen:len<=140737488355328:=by
    have:=hs ((((List.range len).map D).length+((List.range (m-len)).map fun j=>D (len+j)).length)*Tryz.prog.bytesOf e) (by simp only [DataW.weights,ht,List.mem_cons,true_or]);simp only [List.length_map,List.length_range] at this;have h2:len*1<=(len+(m-len))*Tryz.prog.bytesOf e:=Nat.mul_le_mul (by omega) hby;omega
   have he : ∀ i,i<len->∃ y,C W W.heap.size (a.add (i*sz)) y:=by
    intro i hil;obtain⟨cs',hc,hr⟩:=hi i (by omega);rw [hC] at hc;obtain⟨_,hcl,hat⟩:=World.cells?_some hc;refine elem n cs' (D i,Pl i) _ hcl hat hr (fun k hk=>hs k ?_);simp only [DataW.weights,ht,List.mem_cons,List.mem_append];exact .inr (.inl (weights_mem_all hk (List.mem_map.2 ⟨i,List.mem_range.2 hil,rfl⟩)))
   obtain⟨Y,hY⟩:=Deep.choose_lt he;refine⟨some a,len,cap,(List.range len).map Y,rfl,hl,by simp,hlen,fun h0=>⟨a,rfl, ?_,fun j z hz=>?_⟩⟩
   · obtain⟨cs',hc,_⟩:=hi 0 (by omega)
     rw [hC] at hc;obtain⟨_,hcl,hat⟩:=World.cells?_some hc;have h1:=hat 0 hsz;rw [List.getElem?_eq_getElem (by omega)] at h1;have:=World.block_lt_of_cell? W _ h1
     rwa [add_block,add_block] at this
   · rw [List.getElem?_map] at hz
     have hj:j<len:=by
      rcases Nat.lt_or_ge j len with h | h
      · exact h
      · rw [List.getElem?_eq_none (by simpa using h)] at hz; cases hz
     rw [List.getElem?_range hj] at hz;cases hz;exact hY j hj
theorem rd_int {n:Nat} {v:Value} {y:DataW H × List MemPlace} (h:Rd enc W n 3 [v] y) : ∃ z,v = .int .i64 z:=by
 obtain⟨z,e,_,_⟩:=DataW.trod_int Tryz.underlying3 h;exact⟨z,by simpa using e⟩
theorem rd_str {n:Nat} {v:Value} {y:DataW H × List MemPlace} (h:Rd enc W n 9 [v] y) (hs:Small 9 y.1) : ∃ s,v = .string s/\s.size<=140737488355328:=by
 obtain⟨s,e,hx,_⟩:=DataW.trod_string Tryz.underlying9 h;refine⟨s,by simpa using e, ?_⟩;subst hx;have:=hs s.data.toList.length (by simp [DataW.weights]);simpa using this
theorem rd_ints {n:Nat} {v:Value} {y:DataW H × List MemPlace} (h:Rd enc W n 59 [v] y) (hs:Small 59 y.1) : ∃ A m c l,v = .slice A m c/\m<=c/\IntsAt W W.heap.size A m l:=by
 obtain⟨A,m,c,l,e,h1,h2⟩:=open_row (C:=intC) (sz:=1) Tryz.underlying59 (by kernel_rfl) (by decide) (by rw [show Tryz.prog.bytesOf 3=8 by kernel_rfl]; decide)
  (fun n cs x p hl hc hr _=>by
   obtain⟨z,e,_,_⟩:=DataW.trod_int Tryz.underlying3 hr;subst e;have:=hc 0 (by decide);exact⟨z,this⟩) h hs
 exact⟨A,m,c,l,by simpa using e,h1,h2⟩
theorem rd_strs {n:Nat} {v:Value} {y:DataW H × List MemPlace} (h:Rd enc W n 22 [v] y) (hs:Small 22 y.1) : ∃ A m c l,v = .slice A m c/\m<=c/\StrsAt W W.heap.size A m l:=by
 obtain⟨A,m,c,l,e,h1,h2⟩:=open_row (C:=strC) (sz:=1) Tryz.underlying22 (by kernel_rfl) (by decide) (by rw [show Tryz.prog.bytesOf 9=16 by kernel_rfl]; decide)
  (fun n cs x p hl hc hr hs=>by
   obtain⟨s,e,hx,_⟩:=DataW.trod_string Tryz.underlying9 hr;subst e hx;have:=hc 0 (by decide);refine⟨s,this, ?_⟩;have:=hs s.data.toList.length (by simp [DataW.weights]);simpa using this) h hs
 exact⟨A,m,c,l,by simpa using e,h1,h2⟩
theorem rd_msg {n:Nat} {cs:List Value} {x:DataW H × List MemPlace} (h:Rd enc W n 61 cs x) (hs:Small 61 x.1) :
 ∃ u md d fl id tx K kn kc ks,cs=[.int .i64 u,.int .i64 md,.int .i64 d,.string id,.int .i64 fl,.slice K kn kc,.string tx]/\kn<=kc/\IntsAt W W.heap.size K kn ks/\id.size<=140737488355328/\tx.size<=140737488355328:=by
 obtain⟨hl,hf⟩:=fields_of Tryz.underlying61 (by kernel_rfl) (by kernel_rfl) h hs;obtain⟨_,v0,_,e0,r0,s0⟩:=hf 0 _ rfl;obtain⟨_,v1,_,e1,r1,s1⟩:=hf 1 _ rfl;obtain⟨_,v2,_,e2,r2,s2⟩:=hf 2 _ rfl;obtain⟨_,v3,_,e3,r3,s3⟩:=hf 3 _ rfl;obtain⟨_,v4,_,e4,r4,s4⟩:=hf 4 _ rfl;obtain⟨_,v5,_,e5,r5,s5⟩:=hf 5 _ rfl;obtain⟨_,v6,_,e6,r6,s6⟩:=hf 6 _ rfl;obtain⟨u,rfl⟩:=rd_int r0;obtain⟨md,rfl⟩:=rd_int r1;obtain⟨d,rfl⟩:=rd_int r2;obtain⟨id,rfl,hid⟩:=rd_str r3 s3;obtain⟨fl,rfl⟩:=rd_int r4;obtain⟨K,kn,kc,ks,rfl,hkc,hks⟩:=rd_ints r5 s5;obtain⟨tx,rfl,htx⟩:=rd_str r6 s6;refine⟨u,md,d,fl,id,tx,K,kn,kc,ks, ?_,hkc,hks,hid,htx⟩
 match cs,hl with
 | [a0,a1,a2,a3,a4,a5,a6],_ =>
  simp only [List.getElem?_cons_zero,List.getElem?_cons_succ,Option.some.injEq] at e0 e1 e2 e3 e4 e5 e6;subst e0 e1 e2 e3 e4 e5 e6;rfl
theorem rd_msgs {n:Nat} {v:Value} {y:DataW H × List MemPlace} (h:Rd enc W n 23 [v] y) (hs:Small 23 y.1) : ∃ A m c l,v = .slice A m c/\m<=c/\MsgsAt W W.heap.size A m l:=by
 obtain⟨A,m,c,l,e,h1,h2⟩:=open_row (C:=msgC) (sz:=7) Tryz.underlying23 (by kernel_rfl) (by decide) (by rw [show Tryz.prog.bytesOf 61=88 by kernel_rfl]; decide)
  (fun n cs x p hl hc hr hs=>by
   obtain⟨u,md,d,fl,id,tx,K,kn,kc,ks,rfl,hkc,hks,hid,htx⟩:=rd_msg hr hs;refine⟨⟨u,md,d,id,fl,ks,tx⟩, ?_, ?_, ?_, ?_, ?_,⟨K,kc, ?_, ?_, ?_⟩, ?_,hid,htx⟩
   · have:=hc 0 (by decide); exact this
   · have:=hc 1 (by decide); exact this
   · have:=hc 2 (by decide); exact this
   · have:=hc 3 (by decide); exact this
   · have:=hc 4 (by decide); exact this
   · have:=hc 5 (by decide); rw [hks.len]; exact this
   · rw [hks.len]; exact hkc
   · rw [hks.len]; exact hks
   · have:=hc 6 (by decide); exact this) h hs
 exact⟨A,m,c,l,by simpa using e,h1,h2⟩
theorem open_box {r:Reach} {b0:Nat} {v:Value} {d:DataW H} {p:List MemPlace} (hv:Value.okWide Tryz.prog W r b0 25 v) (h:DataW.Trod enc Tryz.prog W 0 (fun _=>true) true 25 v d p) (hs:Small 25 d) :
 ∃ bid bv bn bh WA wn wc MA mn mc ws ms,v = .agg #[.string bid,.int .i64 bv,.int .i64 bn,.int .i64 bh,.slice WA wn wc,.slice MA mn mc]/\StrsAt W W.heap.size WA wn ws/\MsgsAt W W.heap.size MA mn ms/\wn<=wc/\mn<=mc/\bid.size<=140737488355328:=by
 obtain⟨cs,rfl,hsz⟩:=okWide_struct Tryz.underlying25 hv;obtain⟨l⟩:=cs;obtain⟨fuel,hf⟩:=h;have hf':Rd enc W fuel 25 l (d,p):=hf;obtain⟨hl,hf⟩:=fields_of Tryz.underlying25 (by kernel_rfl) (by kernel_rfl) hf' hs;obtain⟨_,v0,_,e0,r0,s0⟩:=hf 0 _ rfl;obtain⟨_,v1,_,e1,r1,s1⟩:=hf 1 _ rfl;obtain⟨_,v2,_,e2,r2,s2⟩:=hf 2 _ rfl;obtain⟨_,v3,_,e3,r3,s3⟩:=hf 3 _ rfl;obtain⟨_,v4,_,e4,r4,s4⟩:=hf 4 _ rfl;obtain⟨_,v5,_,e5,r5,s5⟩:=hf 5 _ rfl;obtain⟨bid,rfl,hid⟩:=rd_str r0 s0;obtain⟨bv,rfl⟩:=rd_int r1;obtain⟨bn,rfl⟩:=rd_int r2;obtain⟨bh,rfl⟩:=rd_int r3;obtain⟨WA,wn,wc,ws,rfl,hwc,hws⟩:=rd_strs r4 s4;obtain⟨MA,mn,mc,ms,rfl,hmc,hms⟩:=rd_msgs r5 s5;refine⟨bid,bv,bn,bh,WA,wn,wc,MA,mn,mc,ws,ms, ?_,hws,hms,hwc,hmc,hid⟩
 match l,hl with
 | [a0,a1,a2,a3,a4,a5],_ =>
  simp only [List.getElem?_cons_zero,List.getElem?_cons_succ,Option.some.injEq] at e0 e1 e2 e3 e4 e5;subst e0 e1 e2 e3 e4 e5;rfl
theorem open_text {r:Reach} {b0:Nat} {v:Value} {d:DataW H} {p:List MemPlace} (hv:Value.okWide Tryz.prog W r b0 9 v) (h:DataW.Trod enc Tryz.prog W 0 (fun _=>true) true 9 v d p) (hs:Small 9 d) :
 ∃ s,v = .string s/\s.size<=140737488355328:=by
 obtain⟨fuel,hf⟩:=h;obtain⟨s,rfl,_⟩:=Go.ChangeMaps.open_string Tryz.underlying9 hv ⟨fuel,hf⟩;exact rd_str (v:=.string s) hf hs
end
end Go.Proofs.YtoljpfapphoflaaGreatDoor.BxLaw
