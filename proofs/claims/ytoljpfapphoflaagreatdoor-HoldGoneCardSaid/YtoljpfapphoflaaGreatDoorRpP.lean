/-
 Parse of rows: whatever the bytes are.
-/
import Derived.Test.YtoljpfapphoflaaGreatDoorJ6
import Derived.Test.YtoljpfapphoflaaGreatDoorZ7
import Derived.Deep.RegionHeld3
set_option linter.unusedVariables false
set_option linter.unusedSimpArgs false
set_option maxHeartbeats 4000000
set_option maxRecDepth 100000
namespace Go.Proofs.YtoljpfapphoflaaGreatDoor.RpP
open Go.RowKit BxD BxKit BxR BxC RwD RwKit RwRo OlD PtD PtK PtR RpD RpR RpW
open PkKit (BytesAt)
open PkF (ptr RD)
structure PS (w wr:World) (M P R T:Nat) (s:St) (A:Option Addr) (n c:Nat) (rs:List RRaw):Prop where
 ln:rs.length=n
 bel:Below w.heap.size w wr
 rd:PRd wr R T s
 rb:RBk wr P R
 lM:w.heap.size<=M
 lR:w.heap.size<=R
 lT:w.heap.size<=T
 hP:P<M
 hR:R<M
 hT:T<M
 hM:M<=wr.heap.size
 PR:P≠R
 PT:P≠T
 om:wr.ownsRow M 63 11 (.slice A n c) n (rc rs)
 ko : ∀ q∈rs,wr.ownsRow M 3 1 (.slice q.K q.r.msg.keys.length q.c) q.r.msg.keys.length (q.r.msg.keys.map (Value.int .i64))
 sm : ∀ q∈rs,q.r.msg.keys.length<=64/\q.r.msg.id.size<=300/\q.r.msg.text.size<=300/\q.r.text.size<=300
def RowLie (lo hi:Nat) (w:World) (A:Option Addr) (n:Nat) (l:List Row):Prop :=
 ∀ w2:World,hi<=w2.heap.size->(∀ k,lo<=k->k<hi->w2.heap[k]? = w.heap[k]?)->RowsAt w2 w2.heap.size A n l
def RowsNew (l:List Row) (e:Int) (w:World) (x:Ending) (w':World):Prop :=
 ∃ A n c,x = .returned (.tuple #[.slice A n c,.int .i64 e])/\n<=c/\RowLie w.heap.size w'.heap.size w' A n l/\Below w.heap.size w w'
section
variable {w wr w2 w3 : World} {M P R T : Nat} {s s' : St} {A A' : Option Addr} {n c c' : Nat} {rs : List RRaw}
theorem PS.keep (h:PS w wr M P R T s A n c rs) (hg:Fr2 R T wr w2) (hr:PRd w2 R T s'):PS w w2 M P R T s' A n c rs:=by
 have h1:=h.lR;have h2:=h.lT;have h3:=h.hP;have h4:=h.hR;have h5:=h.hT;have h6:=h.hM;have kp : ∀ {e sz n:Nat} {v:Value} {xs:List Value},wr.ownsRow M e sz v n xs->w2.ownsRow M e sz v n xs:=fun hx=>own_block hx fun g e=>hg.block g (hx.lt g e).2 (by have:=(hx.lt g e).1; omega) (by have:=(hx.lt g e).1; omega);exact⟨h.ln,h.bel.trans (hg.to h.bel.size h1 h2),hr,(hg.block P (by omega) h.PR h.PT).trans h.rb,h.lM,h1,h2,h3,h4,h5,Nat.le_trans h6 hg.size,h.PR,h.PT,kp h.om,fun q hq=>kp (h.ko q hq),h.sm⟩
theorem PS.go (h:PS w wr M P R T s A n c rs) (hb:Below wr.heap.size wr w2):PS w w2 M P R T s A n c rs:=h.keep (Fr2.below hb R T) (h.rd.go hb)
theorem PS.more (h:PS w wr M P R T s A n c rs) {q:RRaw} (hk:wr.ownsRow M 3 1 (.slice q.K q.r.msg.keys.length q.c) q.r.msg.keys.length (q.r.msg.keys.map (Value.int .i64)))
 (hz:q.r.msg.keys.length<=64/\q.r.msg.id.size<=300/\q.r.msg.text.size<=300/\q.r.text.size<=300)
 (ho:w3.ownsRow M 63 11 (.slice A' (n+1) c') (n+1) (rc (rs++[q]))) (hgr:wr.grownBy w3 (Value.slice A n c).ownBlock) :
 PS w w3 M P R T s A' (n+1) c' (rs++[q]):=by
 have h3:=h.hP;have h4:=h.hR;have h5:=h.hT;have h6:=h.hM;have h7:=h.lM;have hb:Below M wr w3:=⟨hgr.os,hgr.tape,hgr.output,hgr.size,fun k hk=>hgr.block k (by omega) (fun e=>by have:=(h.om.lt k e.symm).1; omega)⟩;have e1:(rs++[q]).length=n+1:=by rw [List.length_append,h.ln]; rfl
 have kp : ∀ {sz n:Nat} {v:Value} {xs:List Value},wr.ownsRow M 3 sz v n xs->w3.ownsRow M 3 sz v n xs:=fun hx=>own_block hx fun g e=>hgr.block g (hx.lt g e).2 fun e2=>own_ne hx h.om e2.symm (by decide) e;refine⟨e1,h.bel.trans (hb.mono h7),⟨(hb.block R h4).trans h.rd.blk,h.rd.rd.below hb h5,h.rd.ne⟩,(hb.block P h3).trans h.rb,h7,h.lR,h.lT,h3,h4,h5,Nat.le_trans h6 hb.size,h.PR,h.PT,ho,fun r hr=>?_,fun r hr=>?_⟩
 · rcases List.mem_append.1 hr with hr | hr
   · exact kp (h.ko r hr)
   · obtain rfl:=List.mem_singleton.1 hr
     exact kp hk
 · rcases List.mem_append.1 hr with hr | hr
   · exact h.sm r hr
   · obtain rfl:=List.mem_singleton.1 hr
     exact hz
theorem PS.le (h:PS w wr M P R T s A n c rs):n<=c:=by
 obtain⟨_,_,e,hc⟩:=own_slice h.om;injection e with _ _ e3;omega
theorem PS.lie (h:PS w wr M P R T s A n c rs) (hn:n<=140737488355328):RowLie w.heap.size wr.heap.size wr A n (rs.map RRaw.r):=by
 intro w2 hs hk;have hM:=h.lM;have kp : ∀ {e sz n:Nat} {v:Value} {xs:List Value},wr.ownsRow M e sz v n xs->w2.ownsRow M e sz v n xs:=fun hx=>own_block hx fun g e=>hk g (by have:=(hx.lt g e).1; omega) (hx.lt g e).2;refine rowsAt_own (kp h.om) (fun g e=>Nat.lt_of_lt_of_le (h.om.lt g e).2 hs) hn fun q hq=>?_;have k1:=kp (h.ko q hq);obtain⟨z1,z2,z3,z4⟩:=h.sm q hq;obtain⟨_,_,e,hc⟩:=own_slice k1;refine⟨intsAt_own k1 (by omega), ?_,by omega,by omega,by omega⟩;injection e with _ _ e3;omega
end
def lenV:Value->Nat
 | .slice _ n _=>n
 | _=>0
theorem nil_rows (w:World) (B:Nat):RowsAt w B none 0 []:=⟨rfl,Nat.zero_le _,fun h=>absurd h (Nat.lt_irrefl 0)⟩
theorem prR_stop {f:Nat} {acc:List Row} {s:St} (h:s.1.length=0):prR (f+1) acc s=(acc,0):=by unfold prR; rw [if_pos h]
theorem prR_full {f:Nat} {acc:List Row} {s:St} (h : ¬ s.1.length=0) (h2:acc.length=200):prR (f+1) acc s=([],4):=by unfold prR; rw [if_neg h,if_pos h2]
theorem prR_bad {f:Nat} {acc:List Row} {s:St} (h : ¬ s.1.length=0) (h2 : ¬ acc.length=200) (h3 : ¬ firstS (roS s).2=0):prR (f+1) acc s=([],((firstS (roS s).2:Nat):Int)):=by
 conv=>lhs; unfold prR
 rw [if_neg h,if_neg h2,if_neg h3]
theorem prR_go {f:Nat} {acc:List Row} {s:St} (h : ¬ s.1.length=0) (h2 : ¬ acc.length=200) (h3:firstS (roS s).2=0):prR (f+1) acc s=prR f (acc++[(roS s).1]) (roS s).2:=by
 conv=>lhs; unfold prR
 rw [if_neg h,if_neg h2,if_pos h3]
theorem parse_new {w:World} {B n cp:Nat} {A:Option Addr} {l:List UInt8} (h:BytesAt w B A n l) (hB:B<=w.heap.size) (hn:n<=140737488355328):Calls Tryz.prog 43 #[.slice A n cp] w (RowsNew (parseR l).1 (parseR l).2 w):=by
 have KN:=H_ (new_p (cp:=cp) h hB hn);unfold parseR;generalize hf0:prR 202 [] (l,0,false)=ans;have HA0:=H_ hf0;clear h hf0;go_enter Tryz.func43,Tryz.ntmps43;go_wp2_with (go_at_call 87; go_loud (
  refine KN.out.mono ?_;rintro e w1 ⟨R,T,rfl,hR,hT,hrd,hb⟩;have hRl:=hrd.lt;have hTl:=hrd.rd.lt;have P1:=H_ (show PS w (w1.alloc (.cells #[ptr R] 132)) (w1.heap.size+1) w1.heap.size R T (l,0,false) none 0 0 [] from
   ⟨rfl,hb.alloc hb.size _,hrd.alloc _,heap_alloc_new w1 _,by have:=hb.size; omega,hR,hT,Nat.lt_succ_self _,by omega,by omega,by simp,by omega,by omega,World.ownsRow_nil _ _ _ _,fun q hq=>by simp at hq,fun q hq=>by simp at hq⟩)
  clear hrd hb))
 obtain⟨P,hP⟩ : ∃ P,P=w1.heap.size:=⟨_,rfl⟩;rw [<- hP] at P1 ⊢;clear hP KN hRl hTl;generalize (World.alloc w1 _)=w2 at P1 ⊢;generalize P+1=M at P1;go_loopw [5] (fun s5 wr=>∃ (A:Option Addr) (n c:Nat) (rs:List RRaw) (s:St),s5 = .slice A n c/\n<=200/\Hid (PS w wr M P R T s A n c rs)/\Hid (prR (201-n+1) (rs.map RRaw.r) s=ans)) (fun s5 _=>201-lenV s5)
 case atStart=>exact⟨none,0,0,[],(l,0,false),rfl,Nat.zero_le _,P1.out,HA0.out⟩
 case round =>
  clear P1 HA0;obtain⟨A,n,c,rs,s,rfl,hrs,P1,HA⟩:=hrel;have KL:=H_ (left_p P1.out.rd);have q0:=P1.out.rb.cell;have q1:=P1.out.rd.cells.1;have hln:(rs.map RRaw.r).length=n:=by rw [List.length_map]; exact P1.out.ln
  by_cases h0:s.1.length=0
  · rw [h0] at KL
    have HE:=H_ ((prR_stop h0).symm.trans HA.out);clear h0;go_wp2_with (go_at_call 88; go_loud (
     refine KL.out.mono ?_;rintro e w' ⟨rfl,rfl⟩))
    refine bodyPost_ret (v:=.tuple #[.slice A n c,.int .i64 0]) (by simp [results,Tryz.results43,go_sem]) rfl ?_;rw [<- HE.out];exact⟨A,n,c,rfl,P1.out.le,P1.out.lie (by omega),P1.out.bel⟩
  obtain⟨k,hk⟩ : ∃ k,k=s.1.length:=⟨_,rfl⟩;have hk0:0<(k:Int):=by omega
  rw [<- hk] at KL;have H0:=H_ h0;clear hk h0;by_cases h2:n=200
  · have HE:=H_ ((prR_full H0.out (hln.trans h2)).symm.trans HA.out)
    subst h2;go_wp2_with (go_at_call 88; go_loud (
     refine KL.out.mono ?_;rintro e w' ⟨rfl,rfl⟩))
    refine bodyPost_ret (v:=.tuple #[.slice none 0 0,.int .i64 4]) (by simp [results,Tryz.results43,go_sem]) rfl ?_;rw [<- HE.out];exact⟨none,0,0,rfl,Nat.le_refl _,fun _ _ _=>nil_rows _ _,P1.out.bel⟩
  have h2i:((n:Int)==200)=false:=by simpa using (by omega : ¬ (n:Int)=200)
  have hlx:=H_ (show ¬ (rs.map RRaw.r).length=200 by rw [hln]; exact h2);have KR0:=row_r P1.out.rd;have hsm:=ro_small s;obtain⟨x,hx⟩ : ∃ x,x=(roS s).1:=⟨_,rfl⟩;obtain⟨s2,hs2⟩ : ∃ s2,s2=(roS s).2:=⟨_,rfl⟩;rw [<- hx,<- hs2] at KR0;rw [<- hx] at hsm;have KR:=H_ KR0;have HSM:=H_ hsm;have HX:=H_ hx;have HS2:=H_ hs2;obtain⟨kl,hkl⟩ : ∃ kl,kl=x.msg.keys.length:=⟨_,rfl⟩;have HKL:=H_ hkl;clear KR0 hsm hx hs2 hkl hln;go_upto_region 6 with (go_at_call 88; go_loud (
   refine KL.out.mono ?_;rintro e w' ⟨rfl,rfl⟩))
  go_upto_region 7 with (go_at_call 89; go_loud (
   refine KR.out.mono ?_;rintro e w3 ⟨K,c2,rfl,hown,hr,hf⟩;rw [<- HKL.out] at hown ⊢;have HO3:=H_ (own_base hown P1.out.hM);have P3:=H_ (P1.out.keep hf hr);clear hown hr hf q0 q1))
  have P4:=H_ (P3.out.go ((Below.refl _ _).alloc lr_ (.cells #[.int .i64 x.kind,.int .i64 x.uid,.int .i64 x.mod,.int .i64 x.msg.uid,.int .i64 x.msg.mod,.int .i64 x.msg.date,.string x.msg.id,.int .i64 x.msg.flags,.slice K kl c2,.string x.msg.text,.string x.text] 63)));have HO4:=H_ (HO3.out.alloc (.cells #[.int .i64 x.kind,.int .i64 x.uid,.int .i64 x.mod,.int .i64 x.msg.uid,.int .i64 x.msg.mod,.int .i64 x.msg.date,.string x.msg.id,.int .i64 x.msg.flags,.slice K kl c2,.string x.msg.text,.string x.text] 63));have HX4:=H_ (heap_alloc_new w3 (.cells #[.int .i64 x.kind,.int .i64 x.uid,.int .i64 x.mod,.int .i64 x.msg.uid,.int .i64 x.msg.mod,.int .i64 x.msg.date,.string x.msg.id,.int .i64 x.msg.flags,.slice K kl c2,.string x.msg.text,.string x.text] 63));obtain⟨X,hXe⟩ : ∃ X,X=w3.heap.size:=⟨_,rfl⟩;rw [<- hXe] at HX4 ⊢;clear hXe P1 P3 HO3 KR KL;generalize (World.alloc w3 _)=w4 at P4 HO4 HX4 ⊢;have KE:=H_ (err_p P4.out.rd);have q0:=P4.out.rb.cell;by_cases hz:firstS s2=0
  · rw [hz] at KE
    have HE:=H_ (show prR (201-n) (rs.map RRaw.r++[x]) s2=ans from by rw [HX.out,HS2.out]; exact (prR_go H0.out hlx.out (by rw [<- HS2.out]; exact hz)).symm.trans HA.out);clear hz;go_upto_region 10 with (go_at_call 90; go_loud (
     refine KE.out.mono ?_;rintro e w' ⟨rfl,rfl⟩))
    clear KE q0;have cX:=fun o=>cell_of_row w4 X o _ _ _ HX4.out;have d0:=(cX 0).trans (show _=some (Value.int .i64 x.kind) from rfl);have d1:=(cX 1).trans (show _=some (Value.int .i64 x.uid) from rfl);have d2:=(cX 2).trans (show _=some (Value.int .i64 x.mod) from rfl);have d3:=(cX 3).trans (show _=some (Value.int .i64 x.msg.uid) from rfl);have d4:=(cX 4).trans (show _=some (Value.int .i64 x.msg.mod) from rfl);have d5:=(cX 5).trans (show _=some (Value.int .i64 x.msg.date) from rfl);have d6:=(cX 6).trans (show _=some (Value.string x.msg.id) from rfl);have d7:=(cX 7).trans (show _=some (Value.int .i64 x.msg.flags) from rfl);have d8:=(cX 8).trans (show _=some (Value.slice K kl c2) from rfl);have d9:=(cX 9).trans (show _=some (Value.string x.msg.text) from rfl);have d10:=(cX 10).trans (show _=some (Value.string x.text) from rfl);clear cX;have O8:=H_ (P4.out.om.alloc (.cells #[.int .i64 x.kind,.int .i64 x.uid,.int .i64 x.mod,.int .i64 x.msg.uid,.int .i64 x.msg.mod,.int .i64 x.msg.date,.string x.msg.id,.int .i64 x.msg.flags,.slice K kl c2,.string x.msg.text,.string x.text] 63));have S8:=H_ (src_new w4 #[.int .i64 x.kind,.int .i64 x.uid,.int .i64 x.mod,.int .i64 x.msg.uid,.int .i64 x.msg.mod,.int .i64 x.msg.date,.string x.msg.id,.int .i64 x.msg.flags,.slice K kl c2,.string x.msg.text,.string x.text] 63 (b:=w4.heap.size) (m:=1) (sz:=11) rfl rfl (by intro u hu; simp at hu; rcases hu with h | h | h | h | h | h | h | h | h | h | h <;> (subst h; rfl)));have Z8:=H_ (show M<=(w4.alloc (.cells #[.int .i64 x.kind,.int .i64 x.uid,.int .i64 x.mod,.int .i64 x.msg.uid,.int .i64 x.msg.mod,.int .i64 x.msg.date,.string x.msg.id,.int .i64 x.msg.flags,.slice K kl c2,.string x.msg.text,.string x.text] 63)).heap.size by have:=P4.out.hM; simp; omega);go_wp2_with (at_builtin; go_loud (
     refine wpList_rows elR rfl _ _ rfl rfl rfl O8.out S8.out (by unfold maxLen; omega) (by omega) Z8.out ?_;intro v9 w9 hown9 hg9 hat9;obtain⟨A9,k9,rfl,hk9⟩:=own_slice hown9;have P9:=H_ ((P4.out.go ((Below.refl _ _).alloc lr_ (.cells #[.int .i64 x.kind,.int .i64 x.uid,.int .i64 x.mod,.int .i64 x.msg.uid,.int .i64 x.msg.mod,.int .i64 x.msg.date,.string x.msg.id,.int .i64 x.msg.flags,.slice K kl c2,.string x.msg.text,.string x.text] 63))).more (q:=⟨x,K,c2⟩) (by show World.ownsRow _ M 3 1 (.slice K x.msg.keys.length c2) x.msg.keys.length _; rw [<- HKL.out]; exact HO4.out.alloc _) HSM.out (by rw [rc_snoc]; unfold cell11; simp only; rw [<- HKL.out]; exact hown9) hg9);clear hown9 hg9 hat9 d0 d1 d2 d3 d4 d5 d6 d7 d8 d9 d10))
    clear O8 S8 Z8;go_roundw
    case rel=>exact⟨A9,n+1,k9,rs++[⟨x,K,c2⟩],s2,rfl,by omega,P9,by
     show prR (201-(n+1)+1) _ _=_;rw [show 201-(n+1)+1=201-n by omega,List.map_append];exact HE.out⟩
    case measure=>simp [lenV]; omega
  · obtain⟨er,her⟩ : ∃ er,er=firstS s2:=⟨_,rfl⟩
    have HE:=H_ (show ans=([],(er:Int)) from by rw [her,HS2.out]; exact HA.out.symm.trans (prR_bad H0.out hlx.out (by rw [<- HS2.out]; exact hz)));rw [<- her] at KE hz;have hzi:((er:Int) != 0)=true:=by simpa using (by omega : ¬ (er:Int)=0)
    clear her;go_wp2_with (go_at_call 90; go_loud (
     refine KE.out.mono ?_;rintro e w' ⟨rfl,rfl⟩))
    refine bodyPost_ret (v:=.tuple #[.slice none 0 0,.int .i64 (er:Int)]) (by simp [results,Tryz.results43,go_sem]) rfl ?_;rw [HE.out];exact⟨none,0,0,rfl,Nat.le_refl _,fun _ _ _=>nil_rows _ _,P4.out.bel⟩
theorem parse_any {w:World} {B n cp:Nat} {A:Option Addr} {l:List UInt8} (h:BytesAt w B A n l) (hB:B<=w.heap.size) (hn:n<=140737488355328):Calls Tryz.prog 43 #[.slice A n cp] w (RowsOut (parseR l).1 (parseR l).2 w) :=
 (parse_new h hB hn).mono fun _ w' ⟨A,n,c,h1,h2,h3,h4⟩=>⟨A,n,c,h1,h2,h3 w' lr_ (fun _ _ _=>rfl),h4⟩
end Go.Proofs.YtoljpfapphoflaaGreatDoor.RpP
