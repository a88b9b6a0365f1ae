/-
  BxS + BxX
-/
import Derived.Test.YtoljpfapphoflaaGreatDoorBxA
import Derived.StillTailTactics
set_option linter.unusedVariables false
set_option linter.unusedSimpArgs false
set_option maxHeartbeats 2000000
set_option maxRecDepth 100000
namespace Go.Proofs.YtoljpfapphoflaaGreatDoor.BxS
open Go.RowKit BxD BxKit BxA
def eqM (a b:Msg):Bool:=decide (a=b)
theorem eqM_ne {a b:Msg} (h:a≠b):eqM a b=false:=decide_eq_false h
theorem eqM_eq {a b:Msg} (h:a=b):eqM a b=true:=decide_eq_true h
def eqX (a b:Box):Bool:=decide (a=b)
theorem eqX_ne {a b:Box} (h:a≠b):eqX a b=false:=decide_eq_false h
theorem eqX_eq {a b:Box} (h:a=b):eqX a b=true:=decide_eq_true h
theorem two_below (w:World) (o1 o2:Obj):Below w.heap.size w ((w.alloc o1).alloc o2):=((Below.refl _ _).alloc lr_ _).alloc (by simp) _
theorem sameMsg_cells {id id' tx tx':ByteArray} {u u' md md' d d' fl fl':Int} {K K':Option Addr} {kn kn' kc kc' B0 B1:Nat} {ks ks':List Int} {w:World} (hk:IntsAt w B0 K kn ks) (hk':IntsAt w B1 K' kn' ks') (hB:B0<=w.heap.size) (hB':B1<=w.heap.size) :
    Calls Tryz.prog 180 #[.agg #[.int .i64 u,.int .i64 md,.int .i64 d,.string id,.int .i64 fl,.slice K kn kc,.string tx],
    .agg #[.int .i64 u',.int .i64 md',.int .i64 d',.string id',.int .i64 fl',.slice K' kn' kc',.string tx']] w fun e w'=>e = .returned (.bool (eqM ⟨u,md,d,id,fl,ks,tx⟩ ⟨u',md',d',id',fl',ks',tx'⟩))/\Below w.heap.size w w':=by
  have KK:=H_ (fun o1 o2=>equalI_any (cp:=kc) (cq:=kc') (IntsAt.below hk (two_below w o1 o2) hB) (IntsAt.below hk' (two_below w o1 o2) hB'));clear hk hk';by_cases hq:u≠u'
  · have HF:=H_ (eqM_ne (a:=⟨u,md,d,id,fl,ks,tx⟩) (b:=⟨u',md',d',id',fl',ks',tx'⟩) (fun e=>hq (by injection e)))
    have hb:(u==u')=false:=by simpa using hq
    clear hq;go_enter Tryz.func180,Tryz.ntmps180;go_wp2_with fail
    go_ret;exact⟨ret_bool HF.out.symm,two_below _ _ _⟩
  obtain rfl:u=u':=Decidable.not_not.1 hq;clear hq;by_cases hq:md≠md'
  · have HF:=H_ (eqM_ne (a:=⟨u,md,d,id,fl,ks,tx⟩) (b:=⟨u,md',d',id',fl',ks',tx'⟩) (fun e=>hq (by injection e)))
    have hb:(md==md')=false:=by simpa using hq
    clear hq;go_enter Tryz.func180,Tryz.ntmps180;go_wp2_with fail
    go_ret;exact⟨ret_bool HF.out.symm,two_below _ _ _⟩
  obtain rfl:md=md':=Decidable.not_not.1 hq;clear hq;by_cases hq:d≠d'
  · have HF:=H_ (eqM_ne (a:=⟨u,md,d,id,fl,ks,tx⟩) (b:=⟨u,md,d',id',fl',ks',tx'⟩) (fun e=>hq (by injection e)))
    have hb:(d==d')=false:=by simpa using hq
    clear hq;go_enter Tryz.func180,Tryz.ntmps180;go_wp2_with fail
    go_ret;exact⟨ret_bool HF.out.symm,two_below _ _ _⟩
  obtain rfl:d=d':=Decidable.not_not.1 hq;clear hq;by_cases hq:id≠id'
  · have HF:=H_ (eqM_ne (a:=⟨u,md,d,id,fl,ks,tx⟩) (b:=⟨u,md,d,id',fl',ks',tx'⟩) (fun e=>hq (by injection e)))
    have hb:(id.toList==id'.toList)=false:=s_ne hq;clear hq;go_enter Tryz.func180,Tryz.ntmps180;go_wp2_with fail
    go_ret;exact⟨ret_bool HF.out.symm,two_below _ _ _⟩
  obtain rfl:id=id':=Decidable.not_not.1 hq;clear hq;by_cases hq:fl≠fl'
  · have HF:=H_ (eqM_ne (a:=⟨u,md,d,id,fl,ks,tx⟩) (b:=⟨u,md,d,id,fl',ks',tx'⟩) (fun e=>hq (by injection e)))
    have hb:(fl==fl')=false:=by simpa using hq
    clear hq;go_enter Tryz.func180,Tryz.ntmps180;go_wp2_with fail
    go_ret;exact⟨ret_bool HF.out.symm,two_below _ _ _⟩
  obtain rfl:fl=fl':=Decidable.not_not.1 hq;clear hq;by_cases hq:ks=ks'
  · subst hq
    have K1:=KK.out;rw [decide_eq_true rfl] at K1;have KL:=H_ K1;clear K1 KK;by_cases ht:tx=tx'
    · subst ht
      have HF:=H_ (eqM_eq (a:=⟨u,md,d,id,fl,ks,tx⟩) (b:=⟨u,md,d,id,fl,ks,tx⟩) rfl);go_enter Tryz.func180,Tryz.ntmps180;go_wp2_with (go_at_call 206; refine (KL.out _ _).mono ?_; rintro e w1 ⟨rfl,n,rfl⟩)
      go_ret;exact⟨ret_bool HF.out.symm,below_drewN (two_below _ _ _) _⟩
    · have HF:=H_ (eqM_ne (a:=⟨u,md,d,id,fl,ks,tx⟩) (b:=⟨u,md,d,id,fl,ks,tx'⟩) (fun e=>ht (by injection e)))
      have hb:(tx.toList==tx'.toList)=false:=s_ne ht;clear ht;go_enter Tryz.func180,Tryz.ntmps180;go_wp2_with (go_at_call 206; refine (KL.out _ _).mono ?_; rintro e w1 ⟨rfl,n,rfl⟩)
      go_ret;exact⟨ret_bool HF.out.symm,below_drewN (two_below _ _ _) _⟩
  · have HF:=H_ (eqM_ne (a:=⟨u,md,d,id,fl,ks,tx⟩) (b:=⟨u,md,d,id,fl,ks',tx'⟩) (fun e=>hq (by injection e)))
    have K1:=KK.out;rw [decide_eq_false hq] at K1;have KL:=H_ K1;clear K1 KK hq;go_enter Tryz.func180,Tryz.ntmps180;go_wp2_with (go_at_call 206; refine (KL.out _ _).mono ?_; rintro e w1 ⟨rfl,n,rfl⟩)
    go_ret;exact⟨ret_bool HF.out.symm,below_drewN (two_below _ _ _) _⟩
theorem refSameMsg_cells {id id' tx tx':ByteArray} {u u' md md' d d' fl fl':Int} {K K':Option Addr} {kn kn' kc kc' B0 B1:Nat} {ks ks':List Int} {w:World} (hk:IntsAt w B0 K kn ks) (hk':IntsAt w B1 K' kn' ks') (hB:B0<=w.heap.size) (hB':B1<=w.heap.size) :
    Calls Tryz.prog 46 #[.agg #[.int .i64 u,.int .i64 md,.int .i64 d,.string id,.int .i64 fl,.slice K kn kc,.string tx],
    .agg #[.int .i64 u',.int .i64 md',.int .i64 d',.string id',.int .i64 fl',.slice K' kn' kc',.string tx']] w fun e w'=>e = .returned (.bool (eqM ⟨u,md,d,id,fl,ks,tx⟩ ⟨u',md',d',id',fl',ks',tx'⟩))/\Below w.heap.size w w':=by
  have KK:=H_ (fun o1 o2=>sameInts_any (cp:=kc) (cq:=kc') (IntsAt.below hk (two_below w o1 o2) hB) (IntsAt.below hk' (two_below w o1 o2) hB'));clear hk hk';by_cases hq:u≠u'
  · have HF:=H_ (eqM_ne (a:=⟨u,md,d,id,fl,ks,tx⟩) (b:=⟨u',md',d',id',fl',ks',tx'⟩) (fun e=>hq (by injection e)))
    have hb:(u==u')=false:=by simpa using hq
    clear hq;go_enter Tryz.func46,Tryz.ntmps46;go_wp2_with fail
    go_ret;exact⟨ret_bool HF.out.symm,two_below _ _ _⟩
  obtain rfl:u=u':=Decidable.not_not.1 hq;clear hq;by_cases hq:md≠md'
  · have HF:=H_ (eqM_ne (a:=⟨u,md,d,id,fl,ks,tx⟩) (b:=⟨u,md',d',id',fl',ks',tx'⟩) (fun e=>hq (by injection e)))
    have hb:(md==md')=false:=by simpa using hq
    clear hq;go_enter Tryz.func46,Tryz.ntmps46;go_wp2_with fail
    go_ret;exact⟨ret_bool HF.out.symm,two_below _ _ _⟩
  obtain rfl:md=md':=Decidable.not_not.1 hq;clear hq;by_cases hq:d≠d'
  · have HF:=H_ (eqM_ne (a:=⟨u,md,d,id,fl,ks,tx⟩) (b:=⟨u,md,d',id',fl',ks',tx'⟩) (fun e=>hq (by injection e)))
    have hb:(d==d')=false:=by simpa using hq
    clear hq;go_enter Tryz.func46,Tryz.ntmps46;go_wp2_with fail
    go_ret;exact⟨ret_bool HF.out.symm,two_below _ _ _⟩
  obtain rfl:d=d':=Decidable.not_not.1 hq;clear hq;by_cases hq:id≠id'
  · have HF:=H_ (eqM_ne (a:=⟨u,md,d,id,fl,ks,tx⟩) (b:=⟨u,md,d,id',fl',ks',tx'⟩) (fun e=>hq (by injection e)))
    have hb:(id.toList==id'.toList)=false:=s_ne hq;clear hq;go_enter Tryz.func46,Tryz.ntmps46;go_wp2_with fail
    go_ret;exact⟨ret_bool HF.out.symm,two_below _ _ _⟩
  obtain rfl:id=id':=Decidable.not_not.1 hq;clear hq;by_cases hq:fl≠fl'
  · have HF:=H_ (eqM_ne (a:=⟨u,md,d,id,fl,ks,tx⟩) (b:=⟨u,md,d,id,fl',ks',tx'⟩) (fun e=>hq (by injection e)))
    have hb:(fl==fl')=false:=by simpa using hq
    clear hq;go_enter Tryz.func46,Tryz.ntmps46;go_wp2_with fail
    go_ret;exact⟨ret_bool HF.out.symm,two_below _ _ _⟩
  obtain rfl:fl=fl':=Decidable.not_not.1 hq;clear hq;by_cases hq:ks=ks'
  · subst hq
    have K1:=KK.out;rw [decide_eq_true rfl] at K1;have KL:=H_ K1;clear K1 KK;by_cases ht:tx=tx'
    · subst ht
      have HF:=H_ (eqM_eq (a:=⟨u,md,d,id,fl,ks,tx⟩) (b:=⟨u,md,d,id,fl,ks,tx⟩) rfl);go_enter Tryz.func46,Tryz.ntmps46;go_wp2_with (go_at_call 93; refine (KL.out _ _).mono ?_; rintro e w1 ⟨rfl,n,rfl⟩)
      go_ret;exact⟨ret_bool HF.out.symm,below_drewN (two_below _ _ _) _⟩
    · have HF:=H_ (eqM_ne (a:=⟨u,md,d,id,fl,ks,tx⟩) (b:=⟨u,md,d,id,fl,ks,tx'⟩) (fun e=>ht (by injection e)))
      have hb:(tx.toList==tx'.toList)=false:=s_ne ht;clear ht;go_enter Tryz.func46,Tryz.ntmps46;go_wp2_with (go_at_call 93; refine (KL.out _ _).mono ?_; rintro e w1 ⟨rfl,n,rfl⟩)
      go_ret;exact⟨ret_bool HF.out.symm,below_drewN (two_below _ _ _) _⟩
  · have HF:=H_ (eqM_ne (a:=⟨u,md,d,id,fl,ks,tx⟩) (b:=⟨u,md,d,id,fl,ks',tx'⟩) (fun e=>hq (by injection e)))
    have K1:=KK.out;rw [decide_eq_false hq] at K1;have KL:=H_ K1;clear K1 KK hq;go_enter Tryz.func46,Tryz.ntmps46;go_wp2_with (go_at_call 93; refine (KL.out _ _).mono ?_; rintro e w1 ⟨rfl,n,rfl⟩)
    go_ret;exact⟨ret_bool HF.out.symm,below_drewN (two_below _ _ _) _⟩
theorem equalMsgs_any {A A':Option Addr} {n n' cp cp' B0 B1:Nat} {ms ms':List Msg} {w:World} (hx:MsgsAt w B0 A n ms) (hy:MsgsAt w B1 A' n' ms') (hB:B0<=w.heap.size) (hB':B1<=w.heap.size) :
    Calls Tryz.prog 179 #[.slice A n cp,.slice A' n' cp',.func (.func 180) #[] #[]] w fun e w'=>e = .returned (.bool (decide (ms=ms')))/\Below w.heap.size w w':=by
  by_cases hnm:n=n'
  · subst hnm
    have HX:=H_ hx;have HY:=H_ hy;have hn:=hx.max;have hnb:((n:Int) != (n:Int))=false:=by simp
    clear hx hy;go_enter Tryz.func179,Tryz.ntmps179;go_wp2_with fail
    go_loopw [17] (fun s17 wr=>∃ k:Nat,k<=n/\s17 = .int .i64 k/\Hid (ms.take k=ms'.take k)/\Hid (Below w.heap.size w wr)) (fun s17 _=>n-(intOf s17).toNat)
    case atStart=>exact⟨0,Nat.zero_le _,rfl,rfl,Below.refl _ _⟩
    case round =>
      obtain⟨k,hk,rfl,HT,HA⟩:=hrel;by_cases hlt:k<n
      · obtain⟨ad,u,md,d,id,fl,ks,tx,K,kn,kc,rfl,hab,e1,c0,c1,c2,c3,c4,c5,c6,_,hks,_,_⟩:=MsgsAt.sp HX.out HA.out hB hlt
        obtain⟨ad',u',md',d',id',fl',ks',tx',K',kn',kc',rfl,hab',e2,c0',c1',c2',c3',c4',c5',c6',_,hks',_,_⟩:=MsgsAt.sp HY.out (HA.out.alloc HA.out.size (.cells #[.int .i64 u,.int .i64 md,.int .i64 d,.string id,.int .i64 fl,.slice K kn kc,.string tx] 61)) hB' hlt;have C : ∀ o,Calls Tryz.prog 180 #[.agg #[.int .i64 u,.int .i64 md,.int .i64 d,.string id,.int .i64 fl,.slice K kn kc,.string tx],
    .agg #[.int .i64 u',.int .i64 md',.int .i64 d',.string id',.int .i64 fl',.slice K' kn' kc',.string tx']] ((wr.alloc (.cells #[.int .i64 u,.int .i64 md,.int .i64 d,.string id,.int .i64 fl,.slice K kn kc,.string tx] 61)).alloc o)
            fun e w'=>e = .returned (.bool (eqM ⟨u,md,d,id,fl,ks,tx⟩ ⟨u',md',d',id',fl',ks',tx'⟩))/\Below ((wr.alloc (.cells #[.int .i64 u,.int .i64 md,.int .i64 d,.string id,.int .i64 fl,.slice K kn kc,.string tx] 61)).alloc o).heap.size ((wr.alloc (.cells #[.int .i64 u,.int .i64 md,.int .i64 d,.string id,.int .i64 fl,.slice K kn kc,.string tx] 61)).alloc o) w':=fun o =>
          sameMsg_cells (IntsAt.below hks (two_below wr _ o) (by have:=HA.out.size; omega)) (IntsAt.below hks' (((Below.refl (wr.alloc (.cells #[.int .i64 u,.int .i64 md,.int .i64 d,.string id,.int .i64 fl,.slice K kn kc,.string tx] 61)).heap.size _)).alloc lr_ o) (by have:=HA.out.size; simp; omega)) (by have:=HA.out.size; simp; omega) (by have:=HA.out.size; simp; omega)
        have HC:=H_ (fun o=>(HA.out.alloc HA.out.size (.cells #[.int .i64 u,.int .i64 md,.int .i64 d,.string id,.int .i64 fl,.slice K kn kc,.string tx] 61)).alloc (by have:=HA.out.size; simp; omega) o);have hz:w.heap.size<=wr.heap.size:=HA.out.size;have g1:(0:Int)<=(k:Int):=by omega
        have g2:(k:Int)<(n:Int):=by omega
        clear hks hks';by_cases hq:(⟨u,md,d,id,fl,ks,tx⟩:Msg)=⟨u',md',d',id',fl',ks',tx'⟩
        · rw [eqM_eq hq] at C
          have HT2:=H_ (take_eq_snoc HT.out e1 (by rw [hq]; exact e2));have K1:=H_ C;clear C hq e1 e2;go_wp2_with (go_at_call 180; refine (K1.out _).mono ?_; rintro e w1 ⟨rfl,hb1⟩)
          have HD:=H_ ((HC.out _).trans (hb1.mono (by have:=HA.out.size; simp; omega)));go_roundw
          case rel=>exact⟨k+1,by omega,by go_num,HT2,HD⟩
          case measure=>simp [intOf]; omega
        · rw [eqM_ne hq] at C
          have HF:=H_ (show decide (ms=ms')=false from decide_eq_false (fun e=>hq (by rw [e,e2] at e1; injection e1 with e1; exact e1.symm)));have K1:=H_ C;clear C hq e1 e2;go_wp2_with (go_at_call 180; refine (K1.out _).mono ?_; rintro e w1 ⟨rfl,hb1⟩)
          go_ret;exact⟨ret_bool HF.out.symm,(HC.out _).trans (hb1.mono (by have:=HA.out.size; simp; omega))⟩
      · obtain rfl:n=k:=by omega
        have HE:=H_ (show decide (ms=ms')=true from decide_eq_true (by have h:=HT.out; rw [take_len HX.out.len,take_len HY.out.len] at h; exact h));go_wp2_with fail
        go_ret;exact⟨ret_bool HE.out.symm,HA.out⟩
  · have HF:=H_ (show decide (ms=ms')=false from decide_eq_false (fun e=>hnm (by rw [<- hx.len,<- hy.len,e])))
    have hnb:((n:Int) != (n':Int))=true:=by simp; omega
    clear hnm;go_enter Tryz.func179,Tryz.ntmps179;go_wp2_with fail
    go_ret;exact⟨ret_bool HF.out.symm,Below.refl _ _⟩
end Go.Proofs.YtoljpfapphoflaaGreatDoor.BxS

set_option maxHeartbeats 4000000
set_option maxRecDepth 100000
namespace Go.Proofs.YtoljpfapphoflaaGreatDoor.BxX
open Go.RowKit BxD BxKit BxA BxS
theorem box_msgs {a b:Box} (h:a=b):a.msgs=b.msgs:=by rw [h]
def Two (w:World) (o1 o2:Obj) (wr:World):Prop:=Below (w.heap.size+2) ((w.alloc o1).alloc o2) wr
section
variable {w wr w2 : World} {o1 o2 : Obj}
theorem Two.size (h:Two w o1 o2 wr):w.heap.size+2<=wr.heap.size:=by have:=Below.size h; simpa using this
theorem Two.go {n:Nat} (h:Two w o1 o2 wr) (hb:Below wr.heap.size (wr.drewN n) w2):Two w o1 o2 w2:=Below.trans (below_drewN h n) (hb.mono (h.size))
theorem Two.below (h:Two w o1 o2 wr):Below w.heap.size w wr:=(two_below w o1 o2).trans (Below.mono h (by omega))
theorem Two.msgs {c0 c1 c2 c3 c4 c5 d0 d1 d2 d3 d4 d5:Value} {t t':TypeId} (h:Two w (.cells #[c0,c1,c2,c3,c4,c5] t) (.cells #[d0,d1,d2,d3,d4,d5] t') wr) :
    wr.cell? ⟨w.heap.size,5,none⟩ = some c5/\wr.cell? ⟨w.heap.size+1,5,none⟩ = some d5:=by
  refine⟨?_, ?_⟩
  · rw [Below.cell h (p:=⟨w.heap.size,_,none⟩) (by simp)]
    simp
  · rw [Below.cell h (p:=⟨w.heap.size+1,_,none⟩) (by simp)]
    simp
end
theorem same_any {bid bid':ByteArray} {bv bv' bn bn' bh bh':Int} {WA WA' MA MA':Option Addr} {wn wn' wc wc' mn mn' mc mc' B0 B1 B2 B3:Nat} {ws ws':List ByteArray} {ms ms':List Msg} {w:World}
    (hx:StrsAt w B0 WA wn ws) (hm:MsgsAt w B1 MA mn ms) (hx':StrsAt w B2 WA' wn' ws') (hm':MsgsAt w B3 MA' mn' ms') (h0:B0<=w.heap.size) (h1:B1<=w.heap.size) (h2:B2<=w.heap.size) (h3:B3<=w.heap.size) :
    Calls Tryz.prog 146 #[.agg #[.string bid,.int .i64 bv,.int .i64 bn,.int .i64 bh,.slice WA wn wc,.slice MA mn mc],
    .agg #[.string bid',.int .i64 bv',.int .i64 bn',.int .i64 bh',.slice WA' wn' wc',.slice MA' mn' mc']] w fun e w'=>e = .returned (.bool (eqX ⟨bid,bv,bn,bh,ws,ms⟩ ⟨bid',bv',bn',bh',ws',ms'⟩))/\Below w.heap.size w w':=by
  have KK:=H_ (fun o1 o2=>equalS_any (cp:=wc) (cq:=wc') (StrsAt.below hx (two_below w o1 o2) h0) (StrsAt.below hx' (two_below w o1 o2) h2));have KM:=H_ (fun o1 o2 n=>equalMsgs_any (cp:=mc) (cp':=mc') (w:=((w.alloc o1).alloc o2).drewN n) (MsgsAt.below hm (below_drewN (two_below w o1 o2) n) h1) (MsgsAt.below hm' (below_drewN (two_below w o1 o2) n) h3) (by show _<=((w.alloc o1).alloc o2).heap.size; simp; omega) (by show _<=((w.alloc o1).alloc o2).heap.size; simp; omega));clear hx hx' hm hm';by_cases hq:bid≠bid'
  · have HF:=H_ (eqX_ne (a:=⟨bid,bv,bn,bh,ws,ms⟩) (b:=⟨bid',bv',bn',bh',ws',ms'⟩) (fun e=>hq (by injection e)))
    have hb:(bid.toList==bid'.toList)=false:=s_ne hq
    skip
    clear hq;go_enter Tryz.func146,Tryz.ntmps146;go_wp2_with fail
    go_ret;exact⟨ret_bool HF.out.symm,two_below _ _ _⟩
  obtain rfl:bid=bid':=Decidable.not_not.1 hq;clear hq;by_cases hq:bv≠bv'
  · have HF:=H_ (eqX_ne (a:=⟨bid,bv,bn,bh,ws,ms⟩) (b:=⟨bid,bv',bn',bh',ws',ms'⟩) (fun e=>hq (by injection e)))
    have hb:(bv==bv')=false:=by simpa using hq
    have hb2:(bv != bv')=true:=by rw [bne,hb]; rfl
    clear hq;go_enter Tryz.func146,Tryz.ntmps146;go_wp2_with fail
    go_ret;exact⟨ret_bool HF.out.symm,two_below _ _ _⟩
  obtain rfl:bv=bv':=Decidable.not_not.1 hq;clear hq;by_cases hq:bn≠bn'
  · have HF:=H_ (eqX_ne (a:=⟨bid,bv,bn,bh,ws,ms⟩) (b:=⟨bid,bv,bn',bh',ws',ms'⟩) (fun e=>hq (by injection e)))
    have hb:(bn==bn')=false:=by simpa using hq
    have hb2:(bn != bn')=true:=by rw [bne,hb]; rfl
    clear hq;go_enter Tryz.func146,Tryz.ntmps146;go_wp2_with fail
    go_ret;exact⟨ret_bool HF.out.symm,two_below _ _ _⟩
  obtain rfl:bn=bn':=Decidable.not_not.1 hq;clear hq;by_cases hq:bh≠bh'
  · have HF:=H_ (eqX_ne (a:=⟨bid,bv,bn,bh,ws,ms⟩) (b:=⟨bid,bv,bn,bh',ws',ms'⟩) (fun e=>hq (by injection e)))
    have hb:(bh==bh')=false:=by simpa using hq
    have hb2:(bh != bh')=true:=by rw [bne,hb]; rfl
    clear hq;go_enter Tryz.func146,Tryz.ntmps146;go_wp2_with fail
    go_ret;exact⟨ret_bool HF.out.symm,two_below _ _ _⟩
  obtain rfl:bh=bh':=Decidable.not_not.1 hq;clear hq;by_cases hq:ws=ws'
  case neg =>
    have HF:=H_ (eqX_ne (a:=⟨bid,bv,bn,bh,ws,ms⟩) (b:=⟨bid,bv,bn,bh,ws',ms'⟩) (fun e=>hq (by injection e)));have K1:=KK.out;rw [decide_eq_false hq] at K1;have KL:=H_ K1;clear K1 KK hq;go_enter Tryz.func146,Tryz.ntmps146;go_wp2_with (go_at_call 178; refine (KL.out _ _).mono ?_; rintro e w1 ⟨rfl,n,rfl⟩)
    go_ret;exact⟨ret_bool HF.out.symm,below_drewN (two_below _ _ _) _⟩
  case pos =>
    subst hq;have K1:=KK.out;rw [decide_eq_true rfl] at K1;have KL:=H_ K1;clear K1 KK
    have HF:Hid (eqX ⟨bid,bv,bn,bh,ws,ms⟩ ⟨bid,bv,bn,bh,ws,ms'⟩=decide (ms=ms')):=H_ (by
      by_cases hq:ms=ms'
      · subst hq; rw [eqX_eq rfl,decide_eq_true rfl]
      · rw [eqX_ne (fun e=>hq (by injection e)),decide_eq_false hq])
    go_enter Tryz.func146,Tryz.ntmps146;go_wp2_with (first | (go_at_call 178; refine (KL.out _ _).mono ?_; rintro e w1 ⟨rfl,n,rfl⟩) | (go_at_call 179; refine (KM.out _ _ _).mono ?_; rintro e w1 ⟨rfl,hb1⟩))
    go_ret;exact⟨ret_bool HF.out.symm,(below_drewN (two_below w _ _) _).trans (hb1.mono (by show _<=((w.alloc _).alloc _).heap.size; simp; omega))⟩
theorem refSame_any {bid bid':ByteArray} {bv bv' bn bn' bh bh':Int} {WA WA' MA MA':Option Addr} {wn wn' wc wc' mn mn' mc mc' B0 B1 B2 B3:Nat} {ws ws':List ByteArray} {ms ms':List Msg} {w:World}
    (hx:StrsAt w B0 WA wn ws) (hm:MsgsAt w B1 MA mn ms) (hx':StrsAt w B2 WA' wn' ws') (hm':MsgsAt w B3 MA' mn' ms') (h0:B0<=w.heap.size) (h1:B1<=w.heap.size) (h2:B2<=w.heap.size) (h3:B3<=w.heap.size) :
    Calls Tryz.prog 17 #[.agg #[.string bid,.int .i64 bv,.int .i64 bn,.int .i64 bh,.slice WA wn wc,.slice MA mn mc],
    .agg #[.string bid',.int .i64 bv',.int .i64 bn',.int .i64 bh',.slice WA' wn' wc',.slice MA' mn' mc']] w fun e w'=>e = .returned (.bool (eqX ⟨bid,bv,bn,bh,ws,ms⟩ ⟨bid',bv',bn',bh',ws',ms'⟩))/\Below w.heap.size w w':=by
  have KK:=H_ (fun o1 o2=>sameTexts_any (cp:=wc) (cq:=wc') (StrsAt.below hx (two_below w o1 o2) h0) (StrsAt.below hx' (two_below w o1 o2) h2));have HX:=H_ hm;have HY:=H_ hm';have hn:=hm.max;have HMN:=H_ hm.len;have HMN':=H_ hm'.len;clear hx hx' hm hm';by_cases hq:bid≠bid'
  · have HF:=H_ (eqX_ne (a:=⟨bid,bv,bn,bh,ws,ms⟩) (b:=⟨bid',bv',bn',bh',ws',ms'⟩) (fun e=>hq (by injection e)))
    have hb:(bid.toList==bid'.toList)=false:=s_ne hq
    skip
    clear hq;go_enter Tryz.func17,Tryz.ntmps17;go_wp2_with fail
    go_ret;exact⟨ret_bool HF.out.symm,two_below _ _ _⟩
  obtain rfl:bid=bid':=Decidable.not_not.1 hq;clear hq;by_cases hq:bv≠bv'
  · have HF:=H_ (eqX_ne (a:=⟨bid,bv,bn,bh,ws,ms⟩) (b:=⟨bid,bv',bn',bh',ws',ms'⟩) (fun e=>hq (by injection e)))
    have hb:(bv==bv')=false:=by simpa using hq
    have hb2:(bv != bv')=true:=by rw [bne,hb]; rfl
    clear hq;go_enter Tryz.func17,Tryz.ntmps17;go_wp2_with fail
    go_ret;exact⟨ret_bool HF.out.symm,two_below _ _ _⟩
  obtain rfl:bv=bv':=Decidable.not_not.1 hq;clear hq;by_cases hq:bn≠bn'
  · have HF:=H_ (eqX_ne (a:=⟨bid,bv,bn,bh,ws,ms⟩) (b:=⟨bid,bv,bn',bh',ws',ms'⟩) (fun e=>hq (by injection e)))
    have hb:(bn==bn')=false:=by simpa using hq
    have hb2:(bn != bn')=true:=by rw [bne,hb]; rfl
    clear hq;go_enter Tryz.func17,Tryz.ntmps17;go_wp2_with fail
    go_ret;exact⟨ret_bool HF.out.symm,two_below _ _ _⟩
  obtain rfl:bn=bn':=Decidable.not_not.1 hq;clear hq;by_cases hq:bh≠bh'
  · have HF:=H_ (eqX_ne (a:=⟨bid,bv,bn,bh,ws,ms⟩) (b:=⟨bid,bv,bn,bh',ws',ms'⟩) (fun e=>hq (by injection e)))
    have hb:(bh==bh')=false:=by simpa using hq
    have hb2:(bh != bh')=true:=by rw [bne,hb]; rfl
    clear hq;go_enter Tryz.func17,Tryz.ntmps17;go_wp2_with fail
    go_ret;exact⟨ret_bool HF.out.symm,two_below _ _ _⟩
  obtain rfl:bh=bh':=Decidable.not_not.1 hq;clear hq;by_cases hq:ws=ws'
  case neg =>
    have HF:=H_ (eqX_ne (a:=⟨bid,bv,bn,bh,ws,ms⟩) (b:=⟨bid,bv,bn,bh,ws',ms'⟩) (fun e=>hq (by injection e)));have K1:=KK.out;rw [decide_eq_false hq] at K1;have KL:=H_ K1;clear K1 KK hq;go_enter Tryz.func17,Tryz.ntmps17;go_wp2_with (go_at_call 45; refine (KL.out _ _).mono ?_; rintro e w1 ⟨rfl,n,rfl⟩)
    go_ret;exact⟨ret_bool HF.out.symm,below_drewN (two_below _ _ _) _⟩
  case pos =>
    subst hq;have K1:=KK.out;rw [decide_eq_true rfl] at K1;have KL:=H_ K1;clear K1 KK;by_cases hnm:mn=mn'
    case neg =>
      have HF:=H_ (eqX_ne (a:=⟨bid,bv,bn,bh,ws,ms⟩) (b:=⟨bid,bv,bn,bh,ws,ms'⟩) (fun e=>hnm (HMN.out.symm.trans ((congrArg List.length (box_msgs e)).trans HMN'.out))));have hnb:((mn:Int) != (mn':Int))=true:=by simp; omega
      clear hnm;go_enter Tryz.func17,Tryz.ntmps17;go_wp2_with (go_at_call 45; refine (KL.out _ _).mono ?_; rintro e w1 ⟨rfl,n,rfl⟩)
      go_ret;exact⟨ret_bool HF.out.symm,below_drewN (two_below _ _ _) _⟩
    case pos =>
    subst hnm;have hnb:((mn:Int) != (mn:Int))=false:=by simp
    go_enter Tryz.func17,Tryz.ntmps17;go_wp2_with (go_at_call 45; refine (KL.out _ _).mono ?_; rintro e w1 ⟨rfl,n,rfl⟩)
    have HS:=H_ (below_drewN (Below.refl (w.heap.size+2) ((w.alloc (.cells #[.string bid,.int .i64 bv,.int .i64 bn,.int .i64 bh,.slice WA wn wc,.slice MA mn mc] 25)).alloc (.cells #[.string bid,.int .i64 bv,.int .i64 bn,.int .i64 bh,.slice WA' wn' wc',.slice MA' mn mc'] 25))) n);go_loopw [52] (fun s52 wr=>∃ k:Nat,k<=mn/\s52 = .int .i64 k/\Hid (ms.take k=ms'.take k)/\Hid (Two w (.cells #[.string bid,.int .i64 bv,.int .i64 bn,.int .i64 bh,.slice WA wn wc,.slice MA mn mc] 25) (.cells #[.string bid,.int .i64 bv,.int .i64 bn,.int .i64 bh,.slice WA' wn' wc',.slice MA' mn mc'] 25) wr)) (fun s52 _=>mn-(intOf s52).toNat)
    case atStart=>exact⟨0,Nat.zero_le _,rfl,rfl,HS⟩
    case round =>
      obtain⟨k,hk,rfl,HT,HA⟩:=hrel;rename_i wr;by_cases hlt:k<mn
      · obtain⟨ad,u,md,d,id,fl,ks,tx,K,kn,kc,rfl,hab,e1,c0,c1,c2,c3,c4,c5,c6,_,hks,_,_⟩:=MsgsAt.sp HX.out HA.out.below h1 hlt
        obtain⟨ad',u',md',d',id',fl',ks',tx',K',kn',kc',rfl,hab',e2,c0',c1',c2',c3',c4',c5',c6',_,hks',_,_⟩:=MsgsAt.sp HY.out HA.out.below h3 hlt;obtain⟨b0,b1⟩:=HA.out.msgs
        have C : ∀ n,Calls Tryz.prog 46 #[.agg #[.int .i64 u,.int .i64 md,.int .i64 d,.string id,.int .i64 fl,.slice K kn kc,.string tx],.agg #[.int .i64 u',.int .i64 md',.int .i64 d',.string id',.int .i64 fl',.slice K' kn' kc',.string tx']] (wr.drewN n)
            fun e w'=>e = .returned (.bool (eqM ⟨u,md,d,id,fl,ks,tx⟩ ⟨u',md',d',id',fl',ks',tx'⟩))/\Below (wr.drewN n).heap.size (wr.drewN n) w':=fun n =>
          refSameMsg_cells (IntsAt.below hks (below_drewN (Below.refl wr.heap.size wr) n) (by have:=HA.out.below.size; omega)) (IntsAt.below hks' (below_drewN (Below.refl wr.heap.size wr) n) (by have:=HA.out.below.size; omega)) (by have:=HA.out.below.size; show _<=wr.heap.size; omega) (by have:=HA.out.below.size; show _<=wr.heap.size; omega)
        have g1:(0:Int)<=(k:Int):=by omega
        have g2:(k:Int)<(mn:Int):=by omega
        clear hks hks';by_cases hq:(⟨u,md,d,id,fl,ks,tx⟩:Msg)=⟨u',md',d',id',fl',ks',tx'⟩
        · rw [eqM_eq hq] at C
          have HT2:=H_ (take_eq_snoc HT.out e1 (by rw [hq]; exact e2));have K1:=H_ C;clear C hq e1 e2;go_wp2_with fail
          go_still_tail 10,(by kernel_rfl)
          go_wp2_with ((go_at_call 46; refine (K1.out _).mono ?_; rintro e w2 ⟨rfl,hb2⟩))
          have HD:=H_ (HA.out.go (hb2.mono lr_));go_roundw
          case rel=>exact⟨k+1,by omega,by go_num,HT2,HD⟩
          case measure=>simp [intOf]; omega
        · rw [eqM_ne hq] at C
          have HF:=H_ (eqX_ne (a:=⟨bid,bv,bn,bh,ws,ms⟩) (b:=⟨bid,bv,bn,bh,ws,ms'⟩) (fun e=>hq (Option.some.inj ((e1.symm.trans (congrArg (fun l:List Msg=>l[k]?) (box_msgs e))).trans e2))));have K1:=H_ C;clear C hq e1 e2;go_wp2_with fail
          go_still_tail 10,(by kernel_rfl)
          go_wp2_with ((go_at_call 46; refine (K1.out _).mono ?_; rintro e w2 ⟨rfl,hb2⟩))
          have HD:=H_ (HA.out.go (hb2.mono lr_));go_ret;exact⟨ret_bool HF.out.symm,HD.out.below⟩
      · obtain rfl:mn=k:=by omega
        have HE:=H_ (eqX_eq (a:=⟨bid,bv,bn,bh,ws,ms⟩) (b:=⟨bid,bv,bn,bh,ws,ms'⟩) (by have h:=HT.out; rw [take_len HX.out.len,take_len HY.out.len] at h; rw [h]));go_wp2_with fail
        go_ret;exact⟨ret_bool HE.out.symm,HA.out.below⟩
end Go.Proofs.YtoljpfapphoflaaGreatDoor.BxX
