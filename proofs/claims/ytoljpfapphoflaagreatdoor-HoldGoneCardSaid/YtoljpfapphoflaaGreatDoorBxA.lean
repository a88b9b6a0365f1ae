/-
 Loops over one or two slices: SameTexts,slices.Equal at texts and at ints,sameInts,Has,slices.Index,slices.Contains; within; the keys.
-/
import Derived.Test.YtoljpfapphoflaaGreatDoorZ8
import Derived.WalkKit
import Derived.BigQuiet
import Derived.Deep.QuietTactic
import Derived.Outline
import Derived.IntWalk
set_option linter.unusedVariables false
set_option linter.unusedSimpArgs false
set_option maxHeartbeats 1000000
set_option maxRecDepth 512
namespace Go.Proofs.YtoljpfapphoflaaGreatDoor.BxA
open Go.RowKit BxD BxKit
def Drawn (w w':World):Prop:=∃ n,w'=w.drewN n
theorem Drawn.refl (w:World):Drawn w w:=⟨0,rfl⟩
theorem Drawn.drewN {w w':World} (h:Drawn w w') (n:Nat):Drawn w (w'.drewN n):=by
 obtain⟨m,rfl⟩:=h;exact⟨m+n,World.drewN_drewN _ _ _⟩
theorem Drawn.below {w w':World} (h:Drawn w w') (B:Nat):Below B w w':=by
 obtain⟨m,rfl⟩:=h;exact below_drewN (Below.refl _ _) m
theorem take_eq_snoc {α:Type} {xs ys:List α} {k:Nat} {x:α} (h:xs.take k=ys.take k) (hx:xs[k]? = some x) (hy:ys[k]? = some x):xs.take (k+1)=ys.take (k+1):=by
 obtain⟨h1,rfl⟩:=List.getElem?_eq_some_iff.1 hx;obtain⟨h2,e⟩:=List.getElem?_eq_some_iff.1 hy;rw [List.take_succ_eq_append_getElem h1,List.take_succ_eq_append_getElem h2,h,e]
theorem take_len {α:Type} {xs:List α} {n:Nat} (h:xs.length=n):xs.take n=xs:=List.take_of_length_le (by omega)
theorem within_any (n a b:Int) (w:World):Calls Tryz.prog 102 #[.int .i64 n,.int .i64 a,.int .i64 b] w fun e w'=>e = .returned (.bool (inB a n b))/\w=w':=by
 by_cases h1:a<=n
 · by_cases h2:n<=b
   · rw [inB_true h1 h2]
     go_enter Tryz.func102,Tryz.ntmps102;go_wp2_with fail
     go_ret;exact⟨rfl,rfl⟩
   · have h2':b<n:=by omega
     rw [inB_false (.inr h2')];have hb:decide (n<=b)=false:=decide_eq_false h2;clear h2;go_enter Tryz.func102,Tryz.ntmps102;go_wp2_with fail
     go_ret;exact⟨rfl,rfl⟩
 · have h1':n<a:=by omega
   rw [inB_false (.inl h1')];clear h1;go_enter Tryz.func102,Tryz.ntmps102;go_wp2_with fail
   go_ret;exact⟨rfl,rfl⟩
theorem sameTexts_any {A B:Option Addr} {n m cp cq B0 B1:Nat} {xs ys:List ByteArray} {w:World} (hx:StrsAt w B0 A n xs) (hy:StrsAt w B1 B m ys) :
 Calls Tryz.prog 45 #[.slice A n cp,.slice B m cq] w fun e w'=>e = .returned (.bool (decide (xs=ys)))/\Drawn w w':=by
 by_cases hnm:n=m
 · subst hnm
   have HX:=H_ hx;have HY:=H_ hy;have hn:=hx.max;have hnb:((n:Int) != (n:Int))=false:=by simp
   clear hx hy;go_enter Tryz.func45,Tryz.ntmps45;go_wp2_with fail
   go_loopw [13] (fun s13 wr=>∃ k:Nat,k<=n/\s13 = .int .i64 k/\Hid (xs.take k=ys.take k)/\Hid (Drawn w wr)) (fun s13 _=>n-(intOf s13).toNat)
   case atStart=>exact⟨0,Nat.zero_le _,rfl,rfl,Drawn.refl w⟩
   case round =>
    obtain⟨k,hk,rfl,HT,HD⟩:=hrel;by_cases hlt:k<n
    · obtain⟨ad1,x1,rfl,e1,hc1⟩:=StrsAt.at_ HX.out (HD.out.below _) lr_ hlt
      obtain⟨ad2,x2,rfl,e2,hd1⟩:=StrsAt.at_ HY.out (HD.out.below _) lr_ hlt;have g1:(0:Int)<=(k:Int):=by omega
      have g2:(k:Int)<(n:Int):=by omega
      by_cases hq:x1=x2
      · subst hq
        have HT2:=H_ (take_eq_snoc HT.out e1 e2);clear e1 e2;go_wp2_with fail
        go_quiet (fail)
        go_wp2_with fail
        go_roundw
        case rel=>exact⟨k+1,by omega,by go_num,HT2,HD.out.drewN _⟩
        case measure=>simp [intOf]; omega
      · have HF:=H_ (show decide (xs=ys)=false from decide_eq_false (fun e=>hq (by rw [e,e2] at e1; injection e1 with e1; exact e1.symm)))
        clear e1 e2;have hxb:(x1.toList==x2.toList)=false:=by rw [ByteArray.toList_eq,ByteArray.toList_eq]; simpa using fun h=>hq (ByteArray.ext h)
        clear hq;go_wp2_with fail
        go_quiet (fail)
        go_wp2_with fail
        go_ret;exact⟨ret_bool HF.out.symm,HD.out.drewN _⟩
    · obtain rfl:k=n:=by omega
      have HE:=H_ (show decide (xs=ys)=true from decide_eq_true (by have h:=HT.out; rw [take_len HX.out.len,take_len HY.out.len] at h; exact h));go_wp2_with fail
      go_ret;exact⟨ret_bool HE.out.symm,HD.out⟩
 · have HF:=H_ (show decide (xs=ys)=false from decide_eq_false (fun e=>hnm (by rw [<- hx.len,<- hy.len,e])))
   have hnb:((n:Int) != (m:Int))=true:=by simp; omega
   clear hnm;go_enter Tryz.func45,Tryz.ntmps45;go_wp2_with fail
   go_ret;exact⟨ret_bool HF.out.symm,Drawn.refl w⟩
theorem equalS_any {A B:Option Addr} {n m cp cq B0 B1:Nat} {xs ys:List ByteArray} {w:World} (hx:StrsAt w B0 A n xs) (hy:StrsAt w B1 B m ys) :
 Calls Tryz.prog 178 #[.slice A n cp,.slice B m cq] w fun e w'=>e = .returned (.bool (decide (xs=ys)))/\Drawn w w':=by
 by_cases hnm:n=m
 · subst hnm
   have HX:=H_ hx;have HY:=H_ hy;have hn:=hx.max;have hnb:((n:Int) != (n:Int))=false:=by simp
   clear hx hy;go_enter Tryz.func178,Tryz.ntmps178;go_wp2_with fail
   go_loopw [13] (fun s13 wr=>∃ k:Nat,k<=n/\s13 = .int .i64 k/\Hid (xs.take k=ys.take k)/\Hid (Drawn w wr)) (fun s13 _=>n-(intOf s13).toNat)
   case atStart=>exact⟨0,Nat.zero_le _,rfl,rfl,Drawn.refl w⟩
   case round =>
    obtain⟨k,hk,rfl,HT,HD⟩:=hrel;by_cases hlt:k<n
    · obtain⟨ad1,x1,rfl,e1,hc1⟩:=StrsAt.at_ HX.out (HD.out.below _) lr_ hlt
      obtain⟨ad2,x2,rfl,e2,hd1⟩:=StrsAt.at_ HY.out (HD.out.below _) lr_ hlt;have g1:(0:Int)<=(k:Int):=by omega
      have g2:(k:Int)<(n:Int):=by omega
      by_cases hq:x1=x2
      · subst hq
        have HT2:=H_ (take_eq_snoc HT.out e1 e2);clear e1 e2;go_wp2_with fail
        go_quiet (fail)
        go_wp2_with fail
        go_roundw
        case rel=>exact⟨k+1,by omega,by go_num,HT2,HD.out.drewN _⟩
        case measure=>simp [intOf]; omega
      · have HF:=H_ (show decide (xs=ys)=false from decide_eq_false (fun e=>hq (by rw [e,e2] at e1; injection e1 with e1; exact e1.symm)))
        clear e1 e2;have hxb:(x1.toList==x2.toList)=false:=by rw [ByteArray.toList_eq,ByteArray.toList_eq]; simpa using fun h=>hq (ByteArray.ext h)
        clear hq;go_wp2_with fail
        go_quiet (fail)
        go_wp2_with fail
        go_ret;exact⟨ret_bool HF.out.symm,HD.out.drewN _⟩
    · obtain rfl:k=n:=by omega
      have HE:=H_ (show decide (xs=ys)=true from decide_eq_true (by have h:=HT.out; rw [take_len HX.out.len,take_len HY.out.len] at h; exact h));go_wp2_with fail
      go_ret;exact⟨ret_bool HE.out.symm,HD.out⟩
 · have HF:=H_ (show decide (xs=ys)=false from decide_eq_false (fun e=>hnm (by rw [<- hx.len,<- hy.len,e])))
   have hnb:((n:Int) != (m:Int))=true:=by simp; omega
   clear hnm;go_enter Tryz.func178,Tryz.ntmps178;go_wp2_with fail
   go_ret;exact⟨ret_bool HF.out.symm,Drawn.refl w⟩
theorem sameInts_any {A B:Option Addr} {n m cp cq B0 B1:Nat} {xs ys:List Int} {w:World} (hx:IntsAt w B0 A n xs) (hy:IntsAt w B1 B m ys) :
 Calls Tryz.prog 93 #[.slice A n cp,.slice B m cq] w fun e w'=>e = .returned (.bool (decide (xs=ys)))/\Drawn w w':=by
 by_cases hnm:n=m
 · subst hnm
   have HX:=H_ hx;have HY:=H_ hy;have hn:=hx.max;have hnb:((n:Int) != (n:Int))=false:=by simp
   clear hx hy;go_enter Tryz.func93,Tryz.ntmps93;go_wp2_with fail
   go_loopw [13] (fun s13 wr=>∃ k:Nat,k<=n/\s13 = .int .i64 k/\Hid (xs.take k=ys.take k)/\Hid (Drawn w wr)) (fun s13 _=>n-(intOf s13).toNat)
   case atStart=>exact⟨0,Nat.zero_le _,rfl,rfl,Drawn.refl w⟩
   case round =>
    obtain⟨k,hk,rfl,HT,HD⟩:=hrel;by_cases hlt:k<n
    · obtain⟨ad1,x1,rfl,e1,hc1⟩:=IntsAt.at_ HX.out (HD.out.below _) lr_ hlt
      obtain⟨ad2,x2,rfl,e2,hd1⟩:=IntsAt.at_ HY.out (HD.out.below _) lr_ hlt;have g1:(0:Int)<=(k:Int):=by omega
      have g2:(k:Int)<(n:Int):=by omega
      by_cases hq:x1=x2
      · subst hq
        have HT2:=H_ (take_eq_snoc HT.out e1 e2);clear e1 e2;go_wp2_with fail
        go_quiet (fail)
        go_wp2_with fail
        go_roundw
        case rel=>exact⟨k+1,by omega,by go_num,HT2,HD.out.drewN _⟩
        case measure=>simp [intOf]; omega
      · have HF:=H_ (show decide (xs=ys)=false from decide_eq_false (fun e=>hq (by rw [e,e2] at e1; injection e1 with e1; exact e1.symm)))
        clear e1 e2;have hxb:(x1==x2)=false:=by simpa using hq
        clear hq;go_wp2_with fail
        go_quiet (fail)
        go_wp2_with fail
        go_ret;exact⟨ret_bool HF.out.symm,HD.out.drewN _⟩
    · obtain rfl:k=n:=by omega
      have HE:=H_ (show decide (xs=ys)=true from decide_eq_true (by have h:=HT.out; rw [take_len HX.out.len,take_len HY.out.len] at h; exact h));go_wp2_with fail
      go_ret;exact⟨ret_bool HE.out.symm,HD.out⟩
 · have HF:=H_ (show decide (xs=ys)=false from decide_eq_false (fun e=>hnm (by rw [<- hx.len,<- hy.len,e])))
   have hnb:((n:Int) != (m:Int))=true:=by simp; omega
   clear hnm;go_enter Tryz.func93,Tryz.ntmps93;go_wp2_with fail
   go_ret;exact⟨ret_bool HF.out.symm,Drawn.refl w⟩
theorem equalI_any {A B:Option Addr} {n m cp cq B0 B1:Nat} {xs ys:List Int} {w:World} (hx:IntsAt w B0 A n xs) (hy:IntsAt w B1 B m ys) :
 Calls Tryz.prog 206 #[.slice A n cp,.slice B m cq] w fun e w'=>e = .returned (.bool (decide (xs=ys)))/\Drawn w w':=by
 by_cases hnm:n=m
 · subst hnm
   have HX:=H_ hx;have HY:=H_ hy;have hn:=hx.max;have hnb:((n:Int) != (n:Int))=false:=by simp
   clear hx hy;go_enter Tryz.func206,Tryz.ntmps206;go_wp2_with fail
   go_loopw [13] (fun s13 wr=>∃ k:Nat,k<=n/\s13 = .int .i64 k/\Hid (xs.take k=ys.take k)/\Hid (Drawn w wr)) (fun s13 _=>n-(intOf s13).toNat)
   case atStart=>exact⟨0,Nat.zero_le _,rfl,rfl,Drawn.refl w⟩
   case round =>
    obtain⟨k,hk,rfl,HT,HD⟩:=hrel;by_cases hlt:k<n
    · obtain⟨ad1,x1,rfl,e1,hc1⟩:=IntsAt.at_ HX.out (HD.out.below _) lr_ hlt
      obtain⟨ad2,x2,rfl,e2,hd1⟩:=IntsAt.at_ HY.out (HD.out.below _) lr_ hlt;have g1:(0:Int)<=(k:Int):=by omega
      have g2:(k:Int)<(n:Int):=by omega
      by_cases hq:x1=x2
      · subst hq
        have HT2:=H_ (take_eq_snoc HT.out e1 e2);clear e1 e2;go_wp2_with fail
        go_quiet (fail)
        go_wp2_with fail
        go_roundw
        case rel=>exact⟨k+1,by omega,by go_num,HT2,HD.out.drewN _⟩
        case measure=>simp [intOf]; omega
      · have HF:=H_ (show decide (xs=ys)=false from decide_eq_false (fun e=>hq (by rw [e,e2] at e1; injection e1 with e1; exact e1.symm)))
        clear e1 e2;have hxb:(x1==x2)=false:=by simpa using hq
        clear hq;go_wp2_with fail
        go_quiet (fail)
        go_wp2_with fail
        go_ret;exact⟨ret_bool HF.out.symm,HD.out.drewN _⟩
    · obtain rfl:k=n:=by omega
      have HE:=H_ (show decide (xs=ys)=true from decide_eq_true (by have h:=HT.out; rw [take_len HX.out.len,take_len HY.out.len] at h; exact h));go_wp2_with fail
      go_ret;exact⟨ret_bool HE.out.symm,HD.out⟩
 · have HF:=H_ (show decide (xs=ys)=false from decide_eq_false (fun e=>hnm (by rw [<- hx.len,<- hy.len,e])))
   have hnb:((n:Int) != (m:Int))=true:=by simp; omega
   clear hnm;go_enter Tryz.func206,Tryz.ntmps206;go_wp2_with fail
   go_ret;exact⟨ret_bool HF.out.symm,Drawn.refl w⟩
theorem not_mem_snoc {α:Type} {l:List α} {k:Nat} {x y:α} (h:y∉l.take k) (hx:l[k]? = some x) (hne:x≠y):y∉l.take (k+1):=by
 obtain⟨hl,rfl⟩:=List.getElem?_eq_some_iff.1 hx;rw [List.take_succ_eq_append_getElem hl];simp only [List.mem_append,List.mem_singleton,not_or];exact⟨h,fun e=>hne e.symm⟩
theorem s_ne {a b:ByteArray} (h:a≠b):(a.toList==b.toList)=false:=by
 rw [ByteArray.toList_eq,ByteArray.toList_eq]; simpa using fun e=>h (ByteArray.ext e)
theorem has_any {A:Option Addr} {n cp B0:Nat} {xs:List ByteArray} {w:World} (s:ByteArray) (hx:StrsAt w B0 A n xs) :
 Calls Tryz.prog 24 #[.slice A n cp,.string s] w fun e w'=>e = .returned (.bool (decide (s∈xs)))/\w=w':=by
 have HX:=H_ hx;have hn:=hx.max;clear hx;go_enter Tryz.func24,Tryz.ntmps24;go_wp2_with fail
 go_loop [9] (fun s9=>∃ k:Nat,k<=n/\s9 = .int .i64 k/\Hid (s∉xs.take k)) (fun s9=>n-(intOf s9).toNat)
 case atStart=>exact⟨0,Nat.zero_le _,rfl,show s∉xs.take 0 by simp⟩
 case round =>
  obtain⟨k,hk,rfl,HT⟩:=hrel;by_cases hlt:k<n
  · obtain⟨ad1,x1,rfl,e1,hc1⟩:=StrsAt.at_ HX.out (Below.refl B0 w) lr_ hlt
    by_cases hq:x1=s
    · subst hq
      have HF:=H_ (show decide (x1∈xs)=true from decide_eq_true (List.mem_of_getElem? e1));clear e1;go_wp2_with fail
      go_ret;exact⟨ret_bool HF.out.symm,rfl⟩
    · have HT2:=H_ (not_mem_snoc HT.out e1 hq)
      have hxb:=s_ne hq;clear hq e1;go_wp2_with fail
      go_round
      case rel=>exact⟨k+1,by omega,by go_num,HT2⟩
      case measure=>simp [intOf]; omega
  · obtain rfl:k=n:=by omega
    have HF:=H_ (show decide (s∈xs)=false from decide_eq_false (by have h:=HT.out; rw [take_len HX.out.len] at h; exact h));go_wp2_with fail
    go_ret;exact⟨ret_bool HF.out.symm,rfl⟩
def IxPost (s:ByteArray) (xs:List ByteArray) (w:World) (e:Ending) (w':World):Prop:=∃ i:Int,e = .returned (.int .i64 i)/\decide (0<=i)=decide (s∈xs)/\w=w'
theorem index_any {A:Option Addr} {n cp B0:Nat} {xs:List ByteArray} {w:World} (s:ByteArray) (hx:StrsAt w B0 A n xs) :
 Calls Tryz.prog 151 #[.slice A n cp,.string s] w (IxPost s xs w):=by
 have HX:=H_ hx;have hn:=hx.max;clear hx;go_enter Tryz.func151,Tryz.ntmps151;go_wp2_with fail
 go_loop [8] (fun s8=>∃ k:Nat,k<=n/\s8 = .int .i64 k/\Hid (s∉xs.take k)) (fun s8=>n-(intOf s8).toNat)
 case atStart=>exact⟨0,Nat.zero_le _,rfl,show s∉xs.take 0 by simp⟩
 case round =>
  obtain⟨k,hk,rfl,HT⟩:=hrel;by_cases hlt:k<n
  · obtain⟨ad1,x1,rfl,e1,hc1⟩:=StrsAt.at_ HX.out (Below.refl B0 w) lr_ hlt
    have g1:(0:Int)<=(k:Int):=by omega
    have g2:(k:Int)<(n:Int):=by omega
    by_cases hq:x1=s
    · subst hq
      have HF:=H_ (show decide (x1∈xs)=true from decide_eq_true (List.mem_of_getElem? e1));clear e1;go_wp2_with fail
      go_ret;exact⟨(k:Int),rfl,by rw [HF.out]; exact decide_eq_true (by omega),rfl⟩
    · have HT2:=H_ (not_mem_snoc HT.out e1 hq)
      have hxb:=s_ne (fun e=>hq e.symm);clear hq e1;go_wp2_with fail
      go_round
      case rel=>exact⟨k+1,by omega,by go_num,HT2⟩
      case measure=>simp [intOf]; omega
  · obtain rfl:k=n:=by omega
    have HF:=H_ (show decide (s∈xs)=false from decide_eq_false (by have h:=HT.out; rw [take_len HX.out.len] at h; exact h));go_wp2_with fail
    go_ret;exact⟨-1,rfl,by rw [HF.out]; rfl,rfl⟩
theorem contains_any {A:Option Addr} {n cp B0:Nat} {xs:List ByteArray} {w:World} (s:ByteArray) (hx:StrsAt w B0 A n xs) :
 Calls Tryz.prog 117 #[.slice A n cp,.string s] w fun e w'=>e = .returned (.bool (decide (s∈xs)))/\w=w':=by
 have K:=H_ (index_any (cp:=cp) s hx);clear hx;go_enter Tryz.func117,Tryz.ntmps117;go_wp2_with (go_at_call 151; refine K.out.mono ?_; rintro e w' ⟨i,rfl,hi,rfl⟩)
 go_ret;exact⟨rfl,rfl⟩
theorem mayKeys_any {A:Option Addr} {n cp B0:Nat} {ks:List Int} {w:World} (nw:Nat) (hx:IntsAt w B0 A n ks) (hnw:nw<=140737488355328) :
 Calls Tryz.prog 175 #[.slice A n cp,.int .i64 nw] w fun e w'=>e = .returned (.bool (keysB ks nw))/\w=w':=by
 have HX:=H_ hx;have hn:=hx.max;clear hx;go_enter Tryz.func175,Tryz.ntmps175;go_wp2_with fail
 go_loop [5,10] (fun s5 s10=>∃ k:Nat,k<=n/\s10 = .int .i64 k/\(∃ lo:Int,s5 = .int .i64 lo/\Hid (lo=pk ks k+1))/\Hid (∀ i,i<k->okK ks nw i)) (fun _ s10=>n-(intOf s10).toNat)
 case atStart=>exact⟨0,Nat.zero_le _,rfl,⟨0,rfl,rfl⟩,fun i hi=>absurd hi (Nat.not_lt_zero _)⟩
 case round =>
  obtain⟨k,hk,rfl,⟨lo,rfl,HL⟩,HT⟩:=hrel;by_cases hlt:k<n
  · obtain⟨ad1,x1,rfl,e1,hc1⟩:=IntsAt.at_ HX.out (Below.refl B0 w) lr_ hlt
    by_cases h1:x1<lo
    · have HF:=H_ (keysB_bad (n:=nw) e1 (.inl (by have:=HL.out; omega)))
      clear e1;go_wp2_with fail
      go_ret;exact⟨ret_bool HF.out.symm,rfl⟩
    have h1':lo<=x1:=by omega
    by_cases h2:x1<(nw:Int)
    · have HT2:=H_ (okK_next HT.out e1 (by have:=HL.out; omega) h2)
      have HP:=H_ (pk_succ e1);have hx0 : -1<=x1:=by
       have h3:=HL.out;have h4 : -1<=pk ks k:=by
        have h5:=HT.out;unfold pk;split
        · omega
        · have h6:=(h5 (k-1) (by omega)).1
          have h7 : ∀ j,j<k-> -1<=ks.getD j 0:=by
           intro j;induction j with
           | zero=>intro hj; have:=(h5 0 hj).1; rw [pk_zero] at this; omega
           | succ j ih =>
            intro hj;have a1:=(h5 (j+1) hj).1;have a2:=ih (by omega);unfold pk at a1;rw [if_neg (by omega),Nat.add_sub_cancel] at a1;omega
          exact h7 _ (by omega)
       omega
      clear e1 h1;go_wp2_with fail
      go_round
      case rel=>exact⟨k+1,by omega,by go_num,⟨_,rfl,show x1+1=pk ks (k+1)+1 by rw [HP.out]⟩,HT2⟩
      case measure=>simp [intOf]; omega
    · have h2':(nw:Int)<=x1:=by omega
      have HF:=H_ (keysB_bad (n:=nw) e1 (.inr h2'));clear e1 h1 h2;go_wp2_with fail
      go_ret;exact⟨ret_bool HF.out.symm,rfl⟩
  · obtain rfl:k=n:=by omega
    have HF:=H_ (keysB_good (by have:=HX.out.len; omega) HT.out);go_wp2_with fail
    go_ret;exact⟨ret_bool HF.out.symm,rfl⟩
theorem refKeys_any {A:Option Addr} {n cp B0:Nat} {ks:List Int} {w:World} (nw:Nat) (hx:IntsAt w B0 A n ks) (_hnw:nw<=140737488355328) :
 Calls Tryz.prog 54 #[.slice A n cp,.int .i64 nw] w fun e w'=>e = .returned (.bool (keysB ks nw))/\w=w':=by
 have HX:=H_ hx;have hn:=hx.max;clear hx;go_enter Tryz.func54,Tryz.ntmps54;go_wp2_with fail
 go_loop [5,10] (fun s5 s10=>∃ k:Nat,k<=n/\s10 = .int .i64 k/\(∃ lo:Int,s5 = .int .i64 lo/\Hid (lo=pk ks k))/\Hid (∀ i,i<k->okK ks nw i)) (fun _ s10=>n-(intOf s10).toNat)
 case atStart=>exact⟨0,Nat.zero_le _,rfl,⟨-1,rfl,rfl⟩,fun i hi=>absurd hi (Nat.not_lt_zero _)⟩
 case round =>
  obtain⟨k,hk,rfl,⟨lo,rfl,HL⟩,HT⟩:=hrel;by_cases hlt:k<n
  · obtain⟨ad1,x1,rfl,e1,hc1⟩:=IntsAt.at_ HX.out (Below.refl B0 w) lr_ hlt
    by_cases h1:x1<=lo
    · have HF:=H_ (keysB_bad (n:=nw) e1 (.inl (by have:=HL.out; omega)))
      clear e1;go_wp2_with fail
      go_ret;exact⟨ret_bool HF.out.symm,rfl⟩
    have h1':lo<x1:=by omega
    by_cases h2:x1<(nw:Int)
    · have HT2:=H_ (okK_next HT.out e1 (by have:=HL.out; omega) h2)
      have HP:=H_ (pk_succ e1);clear e1 h1;go_wp2_with fail
      go_round
      case rel=>exact⟨k+1,by omega,by go_num,⟨_,rfl,show x1=pk ks (k+1) from HP.out.symm⟩,HT2⟩
      case measure=>simp [intOf]; omega
    · have h2':(nw:Int)<=x1:=by omega
      have HF:=H_ (keysB_bad (n:=nw) e1 (.inr h2'));clear e1 h1 h2;go_wp2_with fail
      go_ret;exact⟨ret_bool HF.out.symm,rfl⟩
  · obtain rfl:k=n:=by omega
    have HF:=H_ (keysB_good (by have:=HX.out.len; omega) HT.out);go_wp2_with fail
    go_ret;exact⟨ret_bool HF.out.symm,rfl⟩
end Go.Proofs.YtoljpfapphoflaaGreatDoor.BxA
