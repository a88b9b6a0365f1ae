/-
  BxAtom + BxM + BxW + BxB
-/
import Derived.Test.YtoljpfapphoflaaGreatDoorZ8
import Derived.WalkKit
import Derived.BigQuiet
import Derived.Deep.QuietTactic
import Derived.Lib.Bytealg
import Derived.Outline
import Derived.IntWalk
import Derived.Test.YtoljpfapphoflaaGreatDoorBxA
set_option linter.unusedVariables false
set_option linter.unusedSimpArgs false
set_option maxHeartbeats 4000000
set_option maxRecDepth 100000
namespace Go.Proofs.YtoljpfapphoflaaGreatDoor.BxAtom
open Go.RowKit BxD BxKit
theorem idx25 (s:ByteArray) (c:Int) (w:World):Calls Tryz.prog 192 #[.string s,.int .u8 c] w fun e w'=>e = .returned (.int .i64 (Lib.indexByte s.data.toList c.toNat.toUInt8))/\w=w':=by
  go_enter Tryz.func192,Tryz.ntmps192;go_wp2;rw [run_callFunc_extern Tryz.func213 (by kernel_rfl) (by kernel_rfl) (by kernel_rfl) (e:=Extern.BytealgIndexByte.indexByte) (by kernel_rfl),Lib.run_indexByteString];simp only [Result.andThen];rw [Oper.upon_value];go_wp2;go_ret;exact⟨rfl,rfl⟩
theorem idx22 (s:ByteArray) (c:Int) (w:World):Calls Tryz.prog 152 #[.string s,.int .u8 c] w fun e w'=>e = .returned (.int .i64 (Lib.indexByte s.data.toList c.toNat.toUInt8))/\w=w':=by
  go_enter Tryz.func152,Tryz.ntmps152;go_wp2_with (go_at_call 192; refine (idx25 _ _ _).mono ?_; rintro e w' ⟨rfl,rfl⟩)
  go_ret;exact⟨rfl,rfl⟩
theorem signs_idx (c:UInt8):decide ((0:Int)<=Lib.indexByte signs c)=signs.contains c:=by
  unfold signs;simp only [Lib.indexByte,List.contains_cons,List.contains_nil];by_cases h1:c=46
  · subst h1; rfl
  by_cases h2:c=95
  · subst h2; rfl
  by_cases h3:c=45
  · subst h3; rfl
  by_cases h4:c=36
  · subst h4; rfl
  by_cases h5:c=47
  · subst h5; rfl
  have g1:((46:UInt8)==c)=false:=by simpa using fun h=>h1 h.symm
  have g2:((95:UInt8)==c)=false:=by simpa using fun h=>h2 h.symm
  have g3:((45:UInt8)==c)=false:=by simpa using fun h=>h3 h.symm
  have g4:((36:UInt8)==c)=false:=by simpa using fun h=>h4 h.symm
  have g5:((47:UInt8)==c)=false:=by simpa using fun h=>h5 h.symm
  have k1:(c==(46:UInt8))=false:=by simpa using h1
  have k2:(c==(95:UInt8))=false:=by simpa using h2
  have k3:(c==(45:UInt8))=false:=by simpa using h3
  have k4:(c==(36:UInt8))=false:=by simpa using h4
  have k5:(c==(47:UInt8))=false:=by simpa using h5
  simp [g1,g2,g3,g4,g5,k1,k2,k3,k4,k5]
theorem byte_back (c:UInt8):((c.toNat:Int)).toNat.toUInt8=c:=by simp
theorem ofAtom_let (c:UInt8) (w:World) (h:(97<=(c.toNat:Int)/\(c.toNat:Int)<=122)\/(65<=(c.toNat:Int)/\(c.toNat:Int)<=90)\/(48<=(c.toNat:Int)/\(c.toNat:Int)<=57)) :
    Calls Tryz.prog 118 #[.int .u8 (c.toNat:Int)] w fun e w'=>e = .returned (.bool true)/\w=w':=by
  rcases h with⟨h1,h2⟩ | ⟨h1,h2⟩ | ⟨h1,h2⟩
  all_goals
    go_enter Tryz.func118,Tryz.ntmps118;go_wp2;go_ret;exact⟨rfl,rfl⟩
theorem ofAtom_sign (c:UInt8) (w:World) (h1 : ¬ (97<=(c.toNat:Int)/\(c.toNat:Int)<=122)) (h2 : ¬ (65<=(c.toNat:Int)/\(c.toNat:Int)<=90)) (h3 : ¬ (48<=(c.toNat:Int)/\(c.toNat:Int)<=57)) :
    Calls Tryz.prog 118 #[.int .u8 (c.toNat:Int)] w fun e w'=>e = .returned (.bool (signs.contains c))/\w=w':=by
  have I:=fun w=>idx22 ⟨#[46,95,45,36,47]⟩ (c.toNat:Int) w;have hs:Lib.indexByte (ByteArray.data ⟨#[46,95,45,36,47]⟩).toList (c.toNat:Int).toNat.toUInt8=Lib.indexByte signs c:=by rw [byte_back]; rfl
  rw [hs] at I;have hd:=signs_idx c;obtain⟨n,hn⟩ : ∃ n,n=Lib.indexByte signs c:=⟨_,rfl⟩;rw [<- hn] at I hd;rw [<- hd];clear hs hd hn;have J:=H_ I;clear I;have hr:(c.toNat:Int)<48\/(57<(c.toNat:Int)/\(c.toNat:Int)<65)\/(90<(c.toNat:Int)/\(c.toNat:Int)<97)\/122<(c.toNat:Int):=by omega
  clear h1 h2 h3;rcases hr with h | ⟨h,h'⟩ | ⟨h,h'⟩ | h
  all_goals
    go_enter Tryz.func118,Tryz.ntmps118;go_wp2_with (go_at_call 152; refine (J.out _).mono ?_; rintro e w' ⟨rfl,rfl⟩)
    go_ret;exact⟨rfl,rfl⟩
theorem ofAtom_any (c:UInt8) (w:World):Calls Tryz.prog 118 #[.int .u8 (c.toNat:Int)] w fun e w'=>e = .returned (.bool (atC c))/\w=w':=by
  by_cases h:(97<=(c.toNat:Int)/\(c.toNat:Int)<=122)\/(65<=(c.toNat:Int)/\(c.toNat:Int)<=90)\/(48<=(c.toNat:Int)/\(c.toNat:Int)<=57)
  · have e:atC c=true:=by unfold atC; simp only [Bool.or_eq_true,Bool.and_eq_true,decide_eq_true_eq]; omega
    rw [e]; exact ofAtom_let c w h
  · have e:atC c=signs.contains c:=by
      unfold atC;rw [show (decide (97<=c.toNat)&&decide (c.toNat<=122))=false by simp; omega,show (decide (65<=c.toNat)&&decide (c.toNat<=90))=false by simp; omega,show (decide (48<=c.toNat)&&decide (c.toNat<=57))=false by simp; omega];rfl
    rw [e];simp only [not_or] at h;exact ofAtom_sign c w h.1 h.2.1 h.2.2
theorem atom_any (s:ByteArray) (w:World):Calls Tryz.prog 85 #[.string s] w fun e w'=>e = .returned (.bool (atB s))/\w=w':=by
  by_cases h1:s.size<1
  · have HF:=H_ (atB_short h1)
    have h1':(s.size:Int)<1:=by omega
    go_enter Tryz.func85,Tryz.ntmps85;go_wp2_with fail
    go_ret;exact⟨ret_bool HF.out.symm,rfl⟩
  · by_cases h2:24<s.size
    · have HF:=H_ (atB_long h2)
      have h1':1<=(s.size:Int):=by omega
      have h2':24<(s.size:Int):=by omega
      clear h1;go_enter Tryz.func85,Tryz.ntmps85;go_wp2_with fail
      go_ret;exact⟨ret_bool HF.out.symm,rfl⟩
    · have h1':1<=(s.size:Int):=by omega
      have h2':(s.size:Int)<=24:=by omega
      clear h1 h2;go_enter Tryz.func85,Tryz.ntmps85;go_wp2_with fail
      go_loop [14] (fun s14=>∃ k:Nat,k<=s.size/\s14 = .int .i64 k/\Hid ((s.data.toList.take k).all atC=true)) (fun s14=>s.size-(intOf s14).toNat)
      case atStart=>exact⟨0,Nat.zero_le _,rfl,rfl⟩
      case round =>
        obtain⟨k,hk,rfl,HT⟩:=hrel;by_cases hlt:k<s.size
        · have C:=fun w=>ofAtom_any s[k] w
          cases hc:atC s[k] with
          | true =>
            rw [hc] at C;have HC:=H_ hc;have K:=H_ C;clear hc C;go_wp2_with (go_at_call 118; refine (K.out _).mono ?_; rintro e w' ⟨rfl,rfl⟩)
            go_round
            case rel=>exact⟨k+1,by omega,by go_num,by rw [atC_snoc _ _ hlt,HT.out,HC.out]; rfl⟩
            case measure=>simp [intOf]; omega
          | false =>
            rw [hc] at C;have HF:=H_ (atB_bad hlt hc);have K:=H_ C;clear hc C;go_wp2_with (go_at_call 118; refine (K.out _).mono ?_; rintro e w' ⟨rfl,rfl⟩)
            go_ret;exact⟨ret_bool HF.out.symm,rfl⟩
        · obtain rfl:k=s.size:=by omega
          go_wp2_with fail
          go_ret;exact⟨ret_bool (atB_good (by omega) (by omega) rfl HT.out).symm,rfl⟩
theorem may_any (s:ByteArray) (w:World):Calls Tryz.prog 140 #[.string s] w fun e w'=>e = .returned (.bool (atB s))/\w=w':=by
  go_enter Tryz.func140,Tryz.ntmps140;go_wp2_with (go_at_call 85; refine (atom_any _ _).mono ?_; rintro e w' ⟨rfl,rfl⟩)
  go_ret;exact⟨rfl,rfl⟩
theorem kinds (c:UInt8):(atC c=true/\(((97:Int)<=(c.toNat:Int)/\(c.toNat:Int)<=122)\/((65:Int)<=(c.toNat:Int)/\(c.toNat:Int)<=90)\/((48:Int)<=(c.toNat:Int)/\(c.toNat:Int)<=57) \/
      (c.toNat:Int)=46\/(c.toNat:Int)=95\/(c.toNat:Int)=45\/(c.toNat:Int)=36\/(c.toNat:Int)=47)) \/
    (atC c=false/\((c.toNat:Int)==46)=false/\((c.toNat:Int)==95)=false/\((c.toNat:Int)==45)=false/\((c.toNat:Int)==36)=false/\((c.toNat:Int)==47)=false /\
      ((c.toNat:Int)<48\/((57:Int)<(c.toNat:Int)/\(c.toNat:Int)<65)\/((90:Int)<(c.toNat:Int)/\(c.toNat:Int)<97)\/(122:Int)<(c.toNat:Int))):=by
  have sg:signs.contains c=decide ((c.toNat:Int)=46\/(c.toNat:Int)=95\/(c.toNat:Int)=45\/(c.toNat:Int)=36\/(c.toNat:Int)=47):=by
    rw [Bool.eq_iff_iff,List.contains_iff_mem,decide_eq_true_eq];simp only [signs,List.mem_cons,List.not_mem_nil,or_false];have e : ∀ n:UInt8,c=n↔(c.toNat:Int)=(n.toNat:Int):=fun n=>⟨fun h=>by rw [h],fun h=>UInt8.toNat_inj.1 (by omega)⟩;rw [e 46,e 95,e 45,e 36,e 47];exact Iff.rfl
  have at_:atC c=true↔(((97:Int)<=(c.toNat:Int)/\(c.toNat:Int)<=122)\/((65:Int)<=(c.toNat:Int)/\(c.toNat:Int)<=90)\/((48:Int)<=(c.toNat:Int)/\(c.toNat:Int)<=57) \/
      (c.toNat:Int)=46\/(c.toNat:Int)=95\/(c.toNat:Int)=45\/(c.toNat:Int)=36\/(c.toNat:Int)=47):=by
    unfold atC;rw [sg];simp only [Bool.or_eq_true,Bool.and_eq_true,decide_eq_true_eq];omega
  by_cases h:atC c=true
  · exact .inl ⟨h,at_.1 h⟩
  · have hn:=mt at_.2 h
    have nb : ∀ n:Int,(c.toNat:Int)≠n->((c.toNat:Int)==n)=false:=fun n h=>by simpa using h
    exact .inr ⟨by simpa using h,nb _ (by omega),nb _ (by omega),nb _ (by omega),nb _ (by omega),nb _ (by omega),by omega⟩
theorem refAtom_any (s:ByteArray) (w:World):Calls Tryz.prog 23 #[.string s] w fun e w'=>e = .returned (.bool (atB s))/\w=w':=by
  by_cases h1:s.size<1
  · have HF:=H_ (atB_short h1)
    have h1':(s.size:Int)<1:=by omega
    go_enter Tryz.func23,Tryz.ntmps23;go_wp2_with fail
    go_ret;exact⟨ret_bool HF.out.symm,rfl⟩
  by_cases h2:24<s.size
  · have HF:=H_ (atB_long h2)
    have h1':1<=(s.size:Int):=by omega
    have h2':24<(s.size:Int):=by omega
    clear h1;go_enter Tryz.func23,Tryz.ntmps23;go_wp2_with fail
    go_ret;exact⟨ret_bool HF.out.symm,rfl⟩
  have h1':1<=(s.size:Int):=by omega
  have h2':(s.size:Int)<=24:=by omega
  clear h1 h2;go_enter Tryz.func23,Tryz.ntmps23;go_wp2_with fail
  go_loop [15] (fun s15=>∃ k:Nat,k<=s.size/\s15 = .int .i64 k/\Hid ((s.data.toList.take k).all atC=true)) (fun s15=>s.size-(intOf s15).toNat)
  case atStart=>exact⟨0,Nat.zero_le _,rfl,rfl⟩
  case round =>
    obtain⟨k,hk,rfl,HT⟩:=hrel;by_cases hlt:k<s.size
    · rcases kinds s[k] with⟨hc,hK⟩ | ⟨hc,b1,b2,b3,b4,b5,hK⟩
      · have HC:=H_ hc
        clear hc;rcases hK with⟨h,h'⟩ | ⟨h,h'⟩ | ⟨h,h'⟩ | h | h | h | h | h
        · go_wp2_with fail
          go_round
          case rel=>exact⟨k+1,by omega,by go_num,by rw [atC_snoc _ _ hlt,HT.out,HC.out]; rfl⟩
          case measure=>simp [intOf]; omega
        · have g1:(s[k].toNat:Int)<97:=by omega
          go_wp2_with fail
          go_round
          case rel=>exact⟨k+1,by omega,by go_num,by rw [atC_snoc _ _ hlt,HT.out,HC.out]; rfl⟩
          case measure=>simp [intOf]; omega
        · have g1:(s[k].toNat:Int)<97:=by omega
          have g2:(s[k].toNat:Int)<65:=by omega
          go_wp2_with fail
          go_round
          case rel=>exact⟨k+1,by omega,by go_num,by rw [atC_snoc _ _ hlt,HT.out,HC.out]; rfl⟩
          case measure=>simp [intOf]; omega
        all_goals
          go_wp2_with fail
          go_round
          case rel=>exact⟨k+1,by omega,by go_num,by rw [atC_snoc _ _ hlt,HT.out,HC.out]; rfl⟩
          case measure=>simp [intOf]; omega
      · have HF:=H_ (atB_bad hlt hc)
        clear hc;have n1:((s[k].toNat:Int) != 46)=true:=by rw [bne,b1]; rfl
        have n2:((s[k].toNat:Int) != 95)=true:=by rw [bne,b2]; rfl
        have n3:((s[k].toNat:Int) != 45)=true:=by rw [bne,b3]; rfl
        have n4:((s[k].toNat:Int) != 36)=true:=by rw [bne,b4]; rfl
        have n5:((s[k].toNat:Int) != 47)=true:=by rw [bne,b5]; rfl
        clear b1 b2 b3 b4 b5;rcases hK with h | ⟨h,h'⟩ | ⟨h,h'⟩ | h
        · go_wp2_with fail
          go_ret;exact⟨ret_bool HF.out.symm,rfl⟩
        · have g1:(s[k].toNat:Int)<97:=by omega
          have g2:(48:Int)<=(s[k].toNat:Int):=by omega
          go_wp2_with fail
          go_ret;exact⟨ret_bool HF.out.symm,rfl⟩
        · have g1:(65:Int)<=(s[k].toNat:Int):=by omega
          have g2:(57:Int)<(s[k].toNat:Int):=by omega
          have g3:(48:Int)<=(s[k].toNat:Int):=by omega
          go_wp2_with fail
          go_ret;exact⟨ret_bool HF.out.symm,rfl⟩
        · have g1:(97:Int)<=(s[k].toNat:Int):=by omega
          have g2:(90:Int)<(s[k].toNat:Int):=by omega
          have g3:(57:Int)<(s[k].toNat:Int):=by omega
          go_wp2_with fail
          go_ret;exact⟨ret_bool HF.out.symm,rfl⟩
    · obtain rfl:k=s.size:=by omega
      go_wp2_with fail
      go_ret;exact⟨ret_bool (atB_good (by omega) (by omega) rfl HT.out).symm,rfl⟩
end Go.Proofs.YtoljpfapphoflaaGreatDoor.BxAtom

set_option maxHeartbeats 1000000
set_option maxRecDepth 100000
namespace Go.Proofs.YtoljpfapphoflaaGreatDoor.BxM
open Go.RowKit BxD BxKit BxA BxAtom
theorem mmE_true {n:Nat} {m:Msg} (h:mmB n m=true):mmE n m=0:=by unfold mmE; rw [if_pos h]
theorem mmE_false {n:Nat} {m:Msg} (h:mmB n m=false):mmE n m=1:=by unfold mmE; rw [h]; rfl
theorem mm_bad {n:Nat} {m:Msg} (h:inB 1 m.uid 999999=false\/inB 1 m.mod 1000000=false\/inB 0 m.date 1000000=false\/atB m.id=false\/inB 0 m.flags 31=false\/keysB m.keys n=false\/300<m.text.size):mmE n m=1:=by
 refine mmE_false ?_;unfold mmB;rcases h with h | h | h | h | h | h | h
 all_goals first | (rw [h]; simp) | (rw [decide_eq_false (show ¬ m.text.size<=300 by omega)]; simp)
theorem mm_good {n:Nat} {m:Msg} (h1:inB 1 m.uid 999999=true) (h2:inB 1 m.mod 1000000=true) (h3:inB 0 m.date 1000000=true) (h4:atB m.id=true) (h5:inB 0 m.flags 31=true) (h6:keysB m.keys n=true) (h7:m.text.size<=300):mmE n m=0:=by
 refine mmE_true ?_;unfold mmB;rw [h1,h2,h3,h4,h5,h6,decide_eq_true h7]; rfl
theorem two_below (w:World) (o1 o2:Obj):Below w.heap.size w ((w.alloc o1).alloc o2):=((Below.refl _ _).alloc lr_ _).alloc (by simp) _
theorem mayMsg_cells {bid id tx:ByteArray} {bv bn bh u md d fl:Int} {WA MA KA:Option Addr} {wn wc mn mc kn kc B0:Nat} {ks:List Int} {w:World} (hk:IntsAt w B0 KA kn ks) (hB:B0<=w.heap.size) (hwn:wn<=140737488355328) :
 Calls Tryz.prog 141 #[.agg #[.string bid,.int .i64 bv,.int .i64 bn,.int .i64 bh,.slice WA wn wc,.slice MA mn mc],.agg #[.int .i64 u,.int .i64 md,.int .i64 d,.string id,.int .i64 fl,.slice KA kn kc,.string tx]] w fun e w'=>e = .returned (.int .i64 (mmE wn ⟨u,md,d,id,fl,ks,tx⟩))/\Below w.heap.size w w':=by
 have C5 : ∀ o1 o2,Calls Tryz.prog 175 #[.slice KA kn kc,.int .i64 wn] ((w.alloc o1).alloc o2) fun e w'=>e = .returned (.bool (keysB ks wn))/\((w.alloc o1).alloc o2)=w':=fun o1 o2=>mayKeys_any (cp:=kc) wn (IntsAt.below hk (two_below w o1 o2) hB) hwn;clear hk;have K5:=H_ C5;clear C5;by_cases t0:inB 1 u 999999=false
 · have HF:=H_ (mm_bad (n:=wn) (m:=⟨u,md,d,id,fl,ks,tx⟩) (.inl (t0)))
   go_enter Tryz.func141,Tryz.ntmps141;go_wp2_with (first | (go_at_call 102; refine (within_any _ _ _ _).mono ?_; rintro e w' ⟨rfl,rfl⟩) | (go_at_call 85; refine (atom_any _ _).mono ?_; rintro e w' ⟨rfl,rfl⟩) | (go_at_call 175; refine (K5.out _ _).mono ?_; rintro e w' ⟨rfl,rfl⟩))
   go_ret;exact⟨ret_int HF.out.symm,two_below _ _ _⟩
 have h0:inB 1 u 999999=true:=by simpa using t0
 clear t0;by_cases t1:inB 1 md 1000000=false
 · have HF:=H_ (mm_bad (n:=wn) (m:=⟨u,md,d,id,fl,ks,tx⟩) (.inr (.inl (t1))))
   go_enter Tryz.func141,Tryz.ntmps141;go_wp2_with (first | (go_at_call 102; refine (within_any _ _ _ _).mono ?_; rintro e w' ⟨rfl,rfl⟩) | (go_at_call 85; refine (atom_any _ _).mono ?_; rintro e w' ⟨rfl,rfl⟩) | (go_at_call 175; refine (K5.out _ _).mono ?_; rintro e w' ⟨rfl,rfl⟩))
   go_ret;exact⟨ret_int HF.out.symm,two_below _ _ _⟩
 have h1:inB 1 md 1000000=true:=by simpa using t1
 clear t1;by_cases t2:inB 0 d 1000000=false
 · have HF:=H_ (mm_bad (n:=wn) (m:=⟨u,md,d,id,fl,ks,tx⟩) (.inr (.inr (.inl (t2)))))
   go_enter Tryz.func141,Tryz.ntmps141;go_wp2_with (first | (go_at_call 102; refine (within_any _ _ _ _).mono ?_; rintro e w' ⟨rfl,rfl⟩) | (go_at_call 85; refine (atom_any _ _).mono ?_; rintro e w' ⟨rfl,rfl⟩) | (go_at_call 175; refine (K5.out _ _).mono ?_; rintro e w' ⟨rfl,rfl⟩))
   go_ret;exact⟨ret_int HF.out.symm,two_below _ _ _⟩
 have h2:inB 0 d 1000000=true:=by simpa using t2
 clear t2;by_cases t3:atB id=false
 · have HF:=H_ (mm_bad (n:=wn) (m:=⟨u,md,d,id,fl,ks,tx⟩) (.inr (.inr (.inr (.inl (t3))))))
   go_enter Tryz.func141,Tryz.ntmps141;go_wp2_with (first | (go_at_call 102; refine (within_any _ _ _ _).mono ?_; rintro e w' ⟨rfl,rfl⟩) | (go_at_call 85; refine (atom_any _ _).mono ?_; rintro e w' ⟨rfl,rfl⟩) | (go_at_call 175; refine (K5.out _ _).mono ?_; rintro e w' ⟨rfl,rfl⟩))
   go_ret;exact⟨ret_int HF.out.symm,two_below _ _ _⟩
 have h3:atB id=true:=by simpa using t3
 clear t3;by_cases t4:inB 0 fl 31=false
 · have HF:=H_ (mm_bad (n:=wn) (m:=⟨u,md,d,id,fl,ks,tx⟩) (.inr (.inr (.inr (.inr (.inl (t4)))))))
   go_enter Tryz.func141,Tryz.ntmps141;go_wp2_with (first | (go_at_call 102; refine (within_any _ _ _ _).mono ?_; rintro e w' ⟨rfl,rfl⟩) | (go_at_call 85; refine (atom_any _ _).mono ?_; rintro e w' ⟨rfl,rfl⟩) | (go_at_call 175; refine (K5.out _ _).mono ?_; rintro e w' ⟨rfl,rfl⟩))
   go_ret;exact⟨ret_int HF.out.symm,two_below _ _ _⟩
 have h4:inB 0 fl 31=true:=by simpa using t4
 clear t4;by_cases t5:keysB ks wn=false
 · have HF:=H_ (mm_bad (n:=wn) (m:=⟨u,md,d,id,fl,ks,tx⟩) (.inr (.inr (.inr (.inr (.inr (.inl (t5))))))))
   go_enter Tryz.func141,Tryz.ntmps141;go_wp2_with (first | (go_at_call 102; refine (within_any _ _ _ _).mono ?_; rintro e w' ⟨rfl,rfl⟩) | (go_at_call 85; refine (atom_any _ _).mono ?_; rintro e w' ⟨rfl,rfl⟩) | (go_at_call 175; refine (K5.out _ _).mono ?_; rintro e w' ⟨rfl,rfl⟩))
   go_ret;exact⟨ret_int HF.out.symm,two_below _ _ _⟩
 have h5:keysB ks wn=true:=by simpa using t5
 clear t5;by_cases h7:tx.size<=300
 · have HF:=H_ (mm_good (n:=wn) (m:=⟨u,md,d,id,fl,ks,tx⟩) h0 h1 h2 h3 h4 h5 h7)
   have h7':(tx.size:Int)<=300:=by omega
   clear h7;go_enter Tryz.func141,Tryz.ntmps141;go_wp2_with (first | (go_at_call 102; refine (within_any _ _ _ _).mono ?_; rintro e w' ⟨rfl,rfl⟩) | (go_at_call 85; refine (atom_any _ _).mono ?_; rintro e w' ⟨rfl,rfl⟩) | (go_at_call 175; refine (K5.out _ _).mono ?_; rintro e w' ⟨rfl,rfl⟩))
   go_ret;exact⟨ret_int HF.out.symm,two_below _ _ _⟩
 · have HF:=H_ (mm_bad (n:=wn) (m:=⟨u,md,d,id,fl,ks,tx⟩) (.inr (.inr (.inr (.inr (.inr (.inr (show 300<tx.size by omega))))))))
   have h7':300<(tx.size:Int):=by omega
   clear h7;go_enter Tryz.func141,Tryz.ntmps141;go_wp2_with (first | (go_at_call 102; refine (within_any _ _ _ _).mono ?_; rintro e w' ⟨rfl,rfl⟩) | (go_at_call 85; refine (atom_any _ _).mono ?_; rintro e w' ⟨rfl,rfl⟩) | (go_at_call 175; refine (K5.out _ _).mono ?_; rintro e w' ⟨rfl,rfl⟩))
   go_ret;exact⟨ret_int HF.out.symm,two_below _ _ _⟩
theorem refMayMsg_cells {bid id tx:ByteArray} {bv bn bh u md d fl:Int} {WA MA KA:Option Addr} {wn wc mn mc kn kc B0:Nat} {ks:List Int} {w:World} (hk:IntsAt w B0 KA kn ks) (hB:B0<=w.heap.size) (hwn:wn<=140737488355328) :
 Calls Tryz.prog 25 #[.agg #[.string bid,.int .i64 bv,.int .i64 bn,.int .i64 bh,.slice WA wn wc,.slice MA mn mc],.agg #[.int .i64 u,.int .i64 md,.int .i64 d,.string id,.int .i64 fl,.slice KA kn kc,.string tx]] w fun e w'=>e = .returned (.int .i64 (mmE wn ⟨u,md,d,id,fl,ks,tx⟩))/\Below w.heap.size w w':=by
 have C5 : ∀ o1 o2,Calls Tryz.prog 54 #[.slice KA kn kc,.int .i64 wn] ((w.alloc o1).alloc o2) fun e w'=>e = .returned (.bool (keysB ks wn))/\((w.alloc o1).alloc o2)=w':=fun o1 o2=>refKeys_any (cp:=kc) wn (IntsAt.below hk (two_below w o1 o2) hB) hwn;clear hk;have K5:=H_ C5;clear C5;by_cases t0:u<1
 · have HF:=H_ (mm_bad (n:=wn) (m:=⟨u,md,d,id,fl,ks,tx⟩) (.inl (inB_false (.inl t0))))
   go_enter Tryz.func25,Tryz.ntmps25;go_wp2_with (first | (go_at_call 23; refine (refAtom_any _ _).mono ?_; rintro e w' ⟨rfl,rfl⟩) | (go_at_call 54; refine (K5.out _ _).mono ?_; rintro e w' ⟨rfl,rfl⟩))
   go_ret;exact⟨ret_int HF.out.symm,two_below _ _ _⟩
 by_cases r0:999999<u
 · have HF:=H_ (mm_bad (n:=wn) (m:=⟨u,md,d,id,fl,ks,tx⟩) (.inl (inB_false (.inr r0))))
   have t0a:1<=u:=by omega
   have r0a:1000000<=u:=by omega
   clear t0;go_enter Tryz.func25,Tryz.ntmps25;go_wp2_with (first | (go_at_call 23; refine (refAtom_any _ _).mono ?_; rintro e w' ⟨rfl,rfl⟩) | (go_at_call 54; refine (K5.out _ _).mono ?_; rintro e w' ⟨rfl,rfl⟩))
   go_ret;exact⟨ret_int HF.out.symm,two_below _ _ _⟩
 have h0:=H_ (show inB 1 u 999999=true from inB_true (by omega) (by omega));have t0a:1<=u:=by omega
 have r0a:u<1000000:=by omega
 clear t0 r0;by_cases t1:md<1
 · have HF:=H_ (mm_bad (n:=wn) (m:=⟨u,md,d,id,fl,ks,tx⟩) (.inr (.inl (inB_false (.inl t1)))))
   go_enter Tryz.func25,Tryz.ntmps25;go_wp2_with (first | (go_at_call 23; refine (refAtom_any _ _).mono ?_; rintro e w' ⟨rfl,rfl⟩) | (go_at_call 54; refine (K5.out _ _).mono ?_; rintro e w' ⟨rfl,rfl⟩))
   go_ret;exact⟨ret_int HF.out.symm,two_below _ _ _⟩
 by_cases r1:1000000<md
 · have HF:=H_ (mm_bad (n:=wn) (m:=⟨u,md,d,id,fl,ks,tx⟩) (.inr (.inl (inB_false (.inr r1)))))
   have t1a:1<=md:=by omega
   skip
   clear t1;go_enter Tryz.func25,Tryz.ntmps25;go_wp2_with (first | (go_at_call 23; refine (refAtom_any _ _).mono ?_; rintro e w' ⟨rfl,rfl⟩) | (go_at_call 54; refine (K5.out _ _).mono ?_; rintro e w' ⟨rfl,rfl⟩))
   go_ret;exact⟨ret_int HF.out.symm,two_below _ _ _⟩
 have h1:=H_ (show inB 1 md 1000000=true from inB_true (by omega) (by omega));have t1a:1<=md:=by omega
 have r1a:md<=1000000:=by omega
 clear t1 r1;by_cases t2:d<0
 · have HF:=H_ (mm_bad (n:=wn) (m:=⟨u,md,d,id,fl,ks,tx⟩) (.inr (.inr (.inl (inB_false (.inl t2))))))
   go_enter Tryz.func25,Tryz.ntmps25;go_wp2_with (first | (go_at_call 23; refine (refAtom_any _ _).mono ?_; rintro e w' ⟨rfl,rfl⟩) | (go_at_call 54; refine (K5.out _ _).mono ?_; rintro e w' ⟨rfl,rfl⟩))
   go_ret;exact⟨ret_int HF.out.symm,two_below _ _ _⟩
 by_cases r2:1000000<d
 · have HF:=H_ (mm_bad (n:=wn) (m:=⟨u,md,d,id,fl,ks,tx⟩) (.inr (.inr (.inl (inB_false (.inr r2))))))
   have t2a:0<=d:=by omega
   skip
   clear t2;go_enter Tryz.func25,Tryz.ntmps25;go_wp2_with (first | (go_at_call 23; refine (refAtom_any _ _).mono ?_; rintro e w' ⟨rfl,rfl⟩) | (go_at_call 54; refine (K5.out _ _).mono ?_; rintro e w' ⟨rfl,rfl⟩))
   go_ret;exact⟨ret_int HF.out.symm,two_below _ _ _⟩
 have h2:=H_ (show inB 0 d 1000000=true from inB_true (by omega) (by omega));have t2a:0<=d:=by omega
 have r2a:d<=1000000:=by omega
 clear t2 r2;by_cases t3:atB id=false
 · have HF:=H_ (mm_bad (n:=wn) (m:=⟨u,md,d,id,fl,ks,tx⟩) (.inr (.inr (.inr (.inl (t3))))))
   go_enter Tryz.func25,Tryz.ntmps25;go_wp2_with (first | (go_at_call 23; refine (refAtom_any _ _).mono ?_; rintro e w' ⟨rfl,rfl⟩) | (go_at_call 54; refine (K5.out _ _).mono ?_; rintro e w' ⟨rfl,rfl⟩))
   go_ret;exact⟨ret_int HF.out.symm,two_below _ _ _⟩
 have h3:atB id=true:=by simpa using t3
 clear t3;by_cases t4:fl<0
 · have HF:=H_ (mm_bad (n:=wn) (m:=⟨u,md,d,id,fl,ks,tx⟩) (.inr (.inr (.inr (.inr (.inl (inB_false (.inl t4))))))))
   go_enter Tryz.func25,Tryz.ntmps25;go_wp2_with (first | (go_at_call 23; refine (refAtom_any _ _).mono ?_; rintro e w' ⟨rfl,rfl⟩) | (go_at_call 54; refine (K5.out _ _).mono ?_; rintro e w' ⟨rfl,rfl⟩))
   go_ret;exact⟨ret_int HF.out.symm,two_below _ _ _⟩
 by_cases r4:31<fl
 · have HF:=H_ (mm_bad (n:=wn) (m:=⟨u,md,d,id,fl,ks,tx⟩) (.inr (.inr (.inr (.inr (.inl (inB_false (.inr r4))))))))
   have t4a:0<=fl:=by omega
   skip
   clear t4;go_enter Tryz.func25,Tryz.ntmps25;go_wp2_with (first | (go_at_call 23; refine (refAtom_any _ _).mono ?_; rintro e w' ⟨rfl,rfl⟩) | (go_at_call 54; refine (K5.out _ _).mono ?_; rintro e w' ⟨rfl,rfl⟩))
   go_ret;exact⟨ret_int HF.out.symm,two_below _ _ _⟩
 have h4:=H_ (show inB 0 fl 31=true from inB_true (by omega) (by omega));have t4a:0<=fl:=by omega
 have r4a:fl<=31:=by omega
 clear t4 r4;by_cases t5:keysB ks wn=false
 · have HF:=H_ (mm_bad (n:=wn) (m:=⟨u,md,d,id,fl,ks,tx⟩) (.inr (.inr (.inr (.inr (.inr (.inl (t5))))))))
   go_enter Tryz.func25,Tryz.ntmps25;go_wp2_with (first | (go_at_call 23; refine (refAtom_any _ _).mono ?_; rintro e w' ⟨rfl,rfl⟩) | (go_at_call 54; refine (K5.out _ _).mono ?_; rintro e w' ⟨rfl,rfl⟩))
   go_ret;exact⟨ret_int HF.out.symm,two_below _ _ _⟩
 have h5:keysB ks wn=true:=by simpa using t5
 clear t5;by_cases h7:tx.size<=300
 · have HF:=H_ (mm_good (n:=wn) (m:=⟨u,md,d,id,fl,ks,tx⟩) h0.out h1.out h2.out h3 h4.out h5 h7)
   have h7':(tx.size:Int)<=300:=by omega
   clear h7;go_enter Tryz.func25,Tryz.ntmps25;go_wp2_with (first | (go_at_call 23; refine (refAtom_any _ _).mono ?_; rintro e w' ⟨rfl,rfl⟩) | (go_at_call 54; refine (K5.out _ _).mono ?_; rintro e w' ⟨rfl,rfl⟩))
   go_ret;exact⟨ret_int HF.out.symm,two_below _ _ _⟩
 · have HF:=H_ (mm_bad (n:=wn) (m:=⟨u,md,d,id,fl,ks,tx⟩) (.inr (.inr (.inr (.inr (.inr (.inr (show 300<tx.size by omega))))))))
   have h7':300<(tx.size:Int):=by omega
   clear h7;go_enter Tryz.func25,Tryz.ntmps25;go_wp2_with (first | (go_at_call 23; refine (refAtom_any _ _).mono ?_; rintro e w' ⟨rfl,rfl⟩) | (go_at_call 54; refine (K5.out _ _).mono ?_; rintro e w' ⟨rfl,rfl⟩))
   go_ret;exact⟨ret_int HF.out.symm,two_below _ _ _⟩
end Go.Proofs.YtoljpfapphoflaaGreatDoor.BxM

set_option maxHeartbeats 2000000
set_option maxRecDepth 100000
namespace Go.Proofs.YtoljpfapphoflaaGreatDoor.BxW
open Go.RowKit BxD BxKit BxA BxAtom BxM
theorem mayWords_any {A:Option Addr} {n cp B0:Nat} {ws:List ByteArray} {w:World} (hx:StrsAt w B0 A n ws) (hcp:n<=cp) :
    Calls Tryz.prog 103 #[.slice A n cp] w fun e w'=>e = .returned (.bool (wordsB ws))/\w=w':=by
  have HX:=H_ hx;have hn:=hx.max;clear hx;go_enter Tryz.func103,Tryz.ntmps103;go_wp2_with fail
  go_loop [7] (fun s7=>∃ k:Nat,k<=n/\s7 = .int .i64 k/\Hid (∀ i,i<k->okW ws i)) (fun s7=>n-(intOf s7).toNat)
  case atStart=>exact⟨0,Nat.zero_le _,rfl,fun i hi=>absurd hi (Nat.not_lt_zero _)⟩
  case round =>
    obtain⟨k,hk,rfl,HT⟩:=hrel;by_cases hlt:k<n
    · obtain⟨ad1,x1,rfl,e1,hc1⟩:=StrsAt.at_ HX.out (Below.refl B0 w) lr_ hlt
      have g1:(0:Int)<=(k:Int):=by omega
      have g2:(k:Int)<=(cp:Int):=by omega
      have C:=may_any x1 w;cases ha:atB x1 with
      | false =>
        have HF:=H_ (wordsB_bad e1 (.inl ha));rw [ha] at C;have K:=H_ C;clear C ha e1;go_wp2_with (go_at_call 140; refine K.out.mono ?_; rintro e w' ⟨rfl,rfl⟩)
        go_ret;exact⟨ret_bool HF.out.symm,rfl⟩
      | true =>
        rw [ha] at C;have K:=H_ C;have HA:=H_ ha;have D:=contains_any (cp:=cp) x1 (RowAt.take HX.out hk);clear C ha;by_cases hm:x1∈ws.take k
        · have HF:=H_ (wordsB_bad e1 (.inr hm))
          rw [decide_eq_true hm] at D;have L:=H_ D;clear D hm e1;go_wp2_with (first | (go_at_call 140; refine K.out.mono ?_; rintro e w' ⟨rfl,rfl⟩) | (go_at_call 117; refine L.out.mono ?_; rintro e w' ⟨rfl,rfl⟩))
          go_ret;exact⟨ret_bool HF.out.symm,rfl⟩
        · have HT2:=H_ (okW_next HT.out e1 HA.out hm)
          rw [decide_eq_false hm] at D;have L:=H_ D;clear D hm e1;go_wp2_with (first | (go_at_call 140; refine K.out.mono ?_; rintro e w' ⟨rfl,rfl⟩) | (go_at_call 117; refine L.out.mono ?_; rintro e w' ⟨rfl,rfl⟩))
          go_round
          case rel=>exact⟨k+1,by omega,by go_num,HT2⟩
          case measure=>simp [intOf]; omega
    · obtain rfl:k=n:=by omega
      have HF:=H_ (wordsB_good (by have:=HX.out.len; omega) HT.out);go_wp2_with fail
      go_ret;exact⟨ret_bool HF.out.symm,rfl⟩
def msE (b:Box):Int:=if msgsB b then 0 else 1
theorem msE_bad {b:Box} {i:Nat} {m:Msg} (hx:b.msgs[i]? = some m) (h:mmB b.words.length m=false\/m.uid<=pu b.msgs i\/b.next<=m.uid\/b.high<m.mod):msE b=1:=by unfold msE; rw [msgsB_bad hx h]; rfl
theorem msE_good {b:Box} {k:Nat} (hk:b.msgs.length<=k) (h : ∀ i,i<k->okM b i):msE b=0:=by unfold msE; rw [msgsB_good hk h]; rfl
theorem mayMsgs_any {bid:ByteArray} {bv bn bh:Int} {WA MA:Option Addr} {wn wc mn mc B0:Nat} {ws:List ByteArray} {ms:List Msg} {w:World} (hm:MsgsAt w B0 MA mn ms) (hB:B0<=w.heap.size) (hwl:ws.length=wn) (hwn:wn<=140737488355328) :
    Calls Tryz.prog 104 #[.agg #[.string bid,.int .i64 bv,.int .i64 bn,.int .i64 bh,.slice WA wn wc,.slice MA mn mc]] w fun e w'=>e = .returned (.int .i64 (msE ⟨bid,bv,bn,bh,ws,ms⟩))/\Below w.heap.size w w':=by
  have HM:=H_ hm;have hn:=hm.max;have HW:=H_ hwl;clear hm hwl;go_enter Tryz.func104,Tryz.ntmps104;go_wp2_with fail
  go_loopw [3,10] (fun s3 s10 wr=>∃ k:Nat,k<=mn/\s10 = .int .i64 k/\(∃ lo:Int,s3 = .int .i64 lo/\Hid (lo=pu ms k))/\Hid (∀ i,i<k->okM ⟨bid,bv,bn,bh,ws,ms⟩ i) /\
    Hid (After w (.cells #[.string bid,.int .i64 bv,.int .i64 bn,.int .i64 bh,.slice WA wn wc,.slice MA mn mc] 25) wr)) (fun _ s10 _=>mn-(intOf s10).toNat)
  case atStart=>exact⟨0,Nat.zero_le _,rfl,⟨0,rfl,rfl⟩,fun i hi=>absurd hi (Nat.not_lt_zero _),After.start _ _⟩
  case round =>
    obtain⟨k,hk,rfl,⟨lo,rfl,HL⟩,HT,HA⟩:=hrel;by_cases hlt:k<mn
    · obtain⟨ad,u,md,d,id,fl,ks,tx,K,kn,kc,rfl,_,e1,c0,c1,c2,c3,c4,c5,c6,hkc,hks,_,_⟩:=MsgsAt.sp HM.out HA.out.below hB hlt
      obtain⟨b0,b1,b2,b3,b4,b5⟩:=(HA.out.alloc (.cells #[.int .i64 u,.int .i64 md,.int .i64 d,.string id,.int .i64 fl,.slice K kn kc,.string tx] 61)).box
      have C : ∀ o,Calls Tryz.prog 141 #[.agg #[.string bid,.int .i64 bv,.int .i64 bn,.int .i64 bh,.slice WA wn wc,.slice (some ad) mn mc],.agg #[.int .i64 u,.int .i64 md,.int .i64 d,.string id,.int .i64 fl,.slice K kn kc,.string tx]] (wr.alloc o)
          fun e w'=>e = .returned (.int .i64 (mmE wn ⟨u,md,d,id,fl,ks,tx⟩))/\Below (wr.alloc o).heap.size (wr.alloc o) w':=fun o =>
        mayMsg_cells (IntsAt.below hks ((Below.refl wr.heap.size _).alloc lr_ o) (by have:=HA.out.size; omega)) (by have:=HA.out.size; simp; omega) hwn
      have HC:=H_ (fun o=>(HA.out.alloc o));clear hks;cases hq:mmB wn ⟨u,md,d,id,fl,ks,tx⟩ with
      | false =>
        have HF:=H_ (msE_bad (b:=⟨bid,bv,bn,bh,ws,ms⟩) e1 (.inl (by have:=HW.out; subst this; exact hq)));rw [mmE_false hq] at C;have K1:=H_ C;clear C hq e1;go_wp2_with (go_at_call 141; refine (K1.out _).mono ?_; rintro e w1 ⟨rfl,hb1⟩)
        go_ret;exact⟨ret_int HF.out.symm,((HC.out _).go hb1).below⟩
      | true =>
        have HQ:=H_ hq;rw [mmE_true hq] at C;have K1:=H_ C;clear C hq;by_cases h1:u<=lo
        · have HF:=H_ (msE_bad (b:=⟨bid,bv,bn,bh,ws,ms⟩) e1 (.inr (.inl (by have:=HL.out; subst this; exact h1))))
          clear e1;go_wp2_with fail
          refine (K1.out _).mono ?_;rintro e w1 ⟨rfl,hb1⟩;have HD:=H_ ((HC.out _).go hb1);obtain⟨d0,d1,d2,d3,d4,d5,d6⟩:=msg_new hb1;clear hb1;go_wp2_with fail
          go_ret;exact⟨ret_int HF.out.symm,HD.out.below⟩
        by_cases h2:bn<=u
        · have HF:=H_ (msE_bad (b:=⟨bid,bv,bn,bh,ws,ms⟩) e1 (.inr (.inr (.inl h2))))
          have h1':lo<u:=by omega
          clear e1 h1;go_wp2_with fail
          refine (K1.out _).mono ?_;rintro e w1 ⟨rfl,hb1⟩;have HD:=H_ ((HC.out _).go hb1);obtain⟨d0,d1,d2,d3,d4,d5,d6⟩:=msg_new hb1;obtain⟨f0,f1,f2,f3,f4,f5⟩:=HD.out.box;clear hb1;go_wp2_with fail
          go_ret;exact⟨ret_int HF.out.symm,HD.out.below⟩
        by_cases h3:bh<md
        · have HF:=H_ (msE_bad (b:=⟨bid,bv,bn,bh,ws,ms⟩) e1 (.inr (.inr (.inr h3))))
          have h1':lo<u:=by omega
          have h2':u<bn:=by omega
          clear e1 h1 h2;go_wp2_with fail
          refine (K1.out _).mono ?_;rintro e w1 ⟨rfl,hb1⟩;have HD:=H_ ((HC.out _).go hb1);obtain⟨d0,d1,d2,d3,d4,d5,d6⟩:=msg_new hb1;obtain⟨f0,f1,f2,f3,f4,f5⟩:=HD.out.box;clear hb1;go_wp2_with fail
          go_ret;exact⟨ret_int HF.out.symm,HD.out.below⟩
        · have h1':lo<u:=by omega
          have h2':u<bn:=by omega
          have h3':md<=bh:=by omega
          have HT2:=H_ (okM_next HT.out e1 (by have:=HW.out; subst this; exact HQ.out) (by have:=HL.out; subst this; exact h1') h2' h3');have HP:=H_ (pu_succ e1);clear e1 h1 h2 h3;go_wp2_with fail
          refine (K1.out _).mono ?_;rintro e w1 ⟨rfl,hb1⟩;have HD:=H_ ((HC.out _).go hb1);obtain⟨d0,d1,d2,d3,d4,d5,d6⟩:=msg_new hb1;obtain⟨f0,f1,f2,f3,f4,f5⟩:=HD.out.box;clear hb1;go_wp2_with fail
          go_roundw
          case rel=>exact⟨k+1,by omega,by go_num,⟨_,rfl,HP.out.symm⟩,HT2,HD⟩
          case measure=>simp [intOf]; omega
    · obtain rfl:k=mn:=by omega
      have HF:=H_ (msE_good (b:=⟨bid,bv,bn,bh,ws,ms⟩) (k:=k) (by have:=HM.out.len; show ms.length<=k; omega) HT.out);go_wp2_with fail
      go_ret;exact⟨ret_int HF.out.symm,HA.out.below⟩
end Go.Proofs.YtoljpfapphoflaaGreatDoor.BxW

set_option maxHeartbeats 4000000
set_option maxRecDepth 100000
namespace Go.Proofs.YtoljpfapphoflaaGreatDoor.BxB
open Go.RowKit BxD BxKit BxA BxAtom BxM BxW
theorem head_bad {b:Box} (h:atB b.id=false\/12<b.id.size\/inB 1 b.valid 1000000=false\/inB 1 b.high 1000000=false\/inB 1 b.next 1000000=false):mbE b=1:=by
  have:headB b=false:=by
    unfold headB;rcases h with h | h | h | h | h
    · rw [h]; rfl
    · rw [decide_eq_false (show ¬ b.id.size<=12 by omega)]; simp
    all_goals (rw [h]; simp)
  unfold mbE;rw [this]; rfl
theorem head_good {b:Box} (h1:atB b.id=true) (h2:b.id.size<=12) (h3:inB 1 b.valid 1000000=true) (h4:inB 1 b.high 1000000=true) (h5:inB 1 b.next 1000000=true):headB b=true:=by
  unfold headB;rw [h1,decide_eq_true h2,h3,h4,h5]; rfl
theorem mb_full {b:Box} (h:headB b=true) (h2:64<b.words.length\/60<b.msgs.length):mbE b=4:=by unfold mbE; rw [if_pos h,if_pos h2]
theorem mb_words {b:Box} (h:headB b=true) (h2 : ¬ (64<b.words.length\/60<b.msgs.length)) (h3:wordsB b.words=false):mbE b=1:=by unfold mbE; rw [if_pos h,if_neg h2,h3]; rfl
theorem mb_msgs {b:Box} (h:headB b=true) (h2 : ¬ (64<b.words.length\/60<b.msgs.length)) (h3:wordsB b.words=true):mbE b=msE b:=by unfold mbE msE; rw [if_pos h,if_neg h2,if_pos h3]
theorem one_below (w:World) (o1:Obj):Below w.heap.size w (w.alloc o1):=(Below.refl _ _).alloc lr_ _
theorem may_box {bid:ByteArray} {bv bn bh:Int} {WA MA:Option Addr} {wn wc mn mc B0:Nat} {ws:List ByteArray} {ms:List Msg} {w:World} (hx:StrsAt w B0 WA wn ws) (hm:MsgsAt w B0 MA mn ms) (hB:B0<=w.heap.size) (hwc:wn<=wc) :
    Calls Tryz.prog 67 #[.agg #[.string bid,.int .i64 bv,.int .i64 bn,.int .i64 bh,.slice WA wn wc,.slice MA mn mc]] w fun e w'=>e = .returned (.int .i64 (mbE ⟨bid,bv,bn,bh,ws,ms⟩))/\Below w.heap.size w w':=by
  have hwn:=hx.max;have HWL:=H_ hx.len;have HML:=H_ hm.len;have KW:=H_ (fun o=>mayWords_any (cp:=wc) (StrsAt.below hx (one_below w o) hB) hwc);have KM:=H_ (fun o=>mayMsgs_any (bid:=bid) (bv:=bv) (bn:=bn) (bh:=bh) (WA:=WA) (wc:=wc) (mc:=mc) (MsgsAt.below hm (one_below w o) hB) (by simp; omega) hx.len hwn);clear hx hm;by_cases t0:atB bid=false
  · have HF:=H_ (head_bad (b:=⟨bid,bv,bn,bh,ws,ms⟩) (.inl t0))
    go_enter Tryz.func67,Tryz.ntmps67;go_wp2_with (first | (go_at_call 102; refine (within_any _ _ _ _).mono ?_; rintro e w' ⟨rfl,rfl⟩) | (go_at_call 85; refine (atom_any _ _).mono ?_; rintro e w' ⟨rfl,rfl⟩))
    go_ret;exact⟨ret_int HF.out.symm,one_below _ _⟩
  have h0:atB bid=true:=by simpa using t0
  clear t0;by_cases t1:12<bid.size
  · have HF:=H_ (head_bad (b:=⟨bid,bv,bn,bh,ws,ms⟩) (.inr (.inl t1)))
    have t1a:12<(bid.size:Int):=by omega
    clear t1;go_enter Tryz.func67,Tryz.ntmps67;go_wp2_with (first | (go_at_call 102; refine (within_any _ _ _ _).mono ?_; rintro e w' ⟨rfl,rfl⟩) | (go_at_call 85; refine (atom_any _ _).mono ?_; rintro e w' ⟨rfl,rfl⟩))
    go_ret;exact⟨ret_int HF.out.symm,one_below _ _⟩
  have t1a:(bid.size:Int)<=12:=by omega
  have H1:=H_ (show bid.size<=12 by omega);clear t1;by_cases t2:inB 1 bv 1000000=false
  · have HF:=H_ (head_bad (b:=⟨bid,bv,bn,bh,ws,ms⟩) (.inr (.inr (.inl t2))))
    go_enter Tryz.func67,Tryz.ntmps67;go_wp2_with (first | (go_at_call 102; refine (within_any _ _ _ _).mono ?_; rintro e w' ⟨rfl,rfl⟩) | (go_at_call 85; refine (atom_any _ _).mono ?_; rintro e w' ⟨rfl,rfl⟩))
    go_ret;exact⟨ret_int HF.out.symm,one_below _ _⟩
  have h2:inB 1 bv 1000000=true:=by simpa using t2
  clear t2;by_cases t3:inB 1 bh 1000000=false
  · have HF:=H_ (head_bad (b:=⟨bid,bv,bn,bh,ws,ms⟩) (.inr (.inr (.inr (.inl t3)))))
    go_enter Tryz.func67,Tryz.ntmps67;go_wp2_with (first | (go_at_call 102; refine (within_any _ _ _ _).mono ?_; rintro e w' ⟨rfl,rfl⟩) | (go_at_call 85; refine (atom_any _ _).mono ?_; rintro e w' ⟨rfl,rfl⟩))
    go_ret;exact⟨ret_int HF.out.symm,one_below _ _⟩
  have h3:inB 1 bh 1000000=true:=by simpa using t3
  clear t3;by_cases t4:inB 1 bn 1000000=false
  · have HF:=H_ (head_bad (b:=⟨bid,bv,bn,bh,ws,ms⟩) (.inr (.inr (.inr (.inr (t4))))))
    go_enter Tryz.func67,Tryz.ntmps67;go_wp2_with (first | (go_at_call 102; refine (within_any _ _ _ _).mono ?_; rintro e w' ⟨rfl,rfl⟩) | (go_at_call 85; refine (atom_any _ _).mono ?_; rintro e w' ⟨rfl,rfl⟩))
    go_ret;exact⟨ret_int HF.out.symm,one_below _ _⟩
  have h4:inB 1 bn 1000000=true:=by simpa using t4
  clear t4;have HH:=H_ (head_good (b:=⟨bid,bv,bn,bh,ws,ms⟩) h0 H1.out h2 h3 h4);by_cases f1:64<wn
  · have HF:=H_ (mb_full HH.out (.inl (show 64<ws.length by have:=HWL.out; omega)))
    have f1a:64<(wn:Int):=by omega
    go_enter Tryz.func67,Tryz.ntmps67;go_wp2_with (first | (go_at_call 102; refine (within_any _ _ _ _).mono ?_; rintro e w' ⟨rfl,rfl⟩) | (go_at_call 85; refine (atom_any _ _).mono ?_; rintro e w' ⟨rfl,rfl⟩))
    go_ret;exact⟨ret_int HF.out.symm,one_below _ _⟩
  by_cases f2:60<mn
  · have HF:=H_ (mb_full HH.out (.inr (show 60<ms.length by have:=HML.out; omega)))
    have f1a:(wn:Int)<=64:=by omega
    have f2a:60<(mn:Int):=by omega
    go_enter Tryz.func67,Tryz.ntmps67;go_wp2_with (first | (go_at_call 102; refine (within_any _ _ _ _).mono ?_; rintro e w' ⟨rfl,rfl⟩) | (go_at_call 85; refine (atom_any _ _).mono ?_; rintro e w' ⟨rfl,rfl⟩))
    go_ret;exact⟨ret_int HF.out.symm,one_below _ _⟩
  have f1a:(wn:Int)<=64:=by omega
  have f2a:(mn:Int)<=60:=by omega
  have HN:=H_ (show ¬ (64<ws.length\/60<ms.length) by have:=HWL.out; have:=HML.out; omega);clear f1 f2;by_cases t5:wordsB ws=false
  · have HF:=H_ (mb_words HH.out HN.out t5)
    go_enter Tryz.func67,Tryz.ntmps67;go_wp2_with (first | (go_at_call 102; refine (within_any _ _ _ _).mono ?_; rintro e w' ⟨rfl,rfl⟩) | (go_at_call 85; refine (atom_any _ _).mono ?_; rintro e w' ⟨rfl,rfl⟩) | (go_at_call 103; refine (KW.out _).mono ?_; rintro e w' ⟨rfl,rfl⟩))
    go_ret;exact⟨ret_int HF.out.symm,one_below _ _⟩
  have h5:wordsB ws=true:=by simpa using t5
  have HF:=H_ (mb_msgs HH.out HN.out h5);clear t5;go_enter Tryz.func67,Tryz.ntmps67;go_wp2_with (first | (go_at_call 102; refine (within_any _ _ _ _).mono ?_; rintro e w' ⟨rfl,rfl⟩) | (go_at_call 85; refine (atom_any _ _).mono ?_; rintro e w' ⟨rfl,rfl⟩) | (go_at_call 103; refine (KW.out _).mono ?_; rintro e w' ⟨rfl,rfl⟩) | (go_at_call 104; refine (KM.out _).mono ?_; rintro e w1 ⟨rfl,hb1⟩))
  go_ret;exact⟨ret_int HF.out.symm,(one_below _ _).trans (hb1.mono (by simp))⟩
theorem ref_may {bid:ByteArray} {bv bn bh:Int} {WA MA:Option Addr} {wn wc mn mc B0:Nat} {ws:List ByteArray} {ms:List Msg} {w:World} (hx:StrsAt w B0 WA wn ws) (hm:MsgsAt w B0 MA mn ms) (hB:B0<=w.heap.size) (hwc:wn<=wc) :
    Calls Tryz.prog 9 #[.agg #[.string bid,.int .i64 bv,.int .i64 bn,.int .i64 bh,.slice WA wn wc,.slice MA mn mc]] w fun e w'=>e = .returned (.int .i64 (mbE ⟨bid,bv,bn,bh,ws,ms⟩))/\Below w.heap.size w w':=by
  have hwn:=hx.max;have hmn:=hm.max;have HWL:=H_ hx.len;have HML:=H_ hm.len;have HX:=H_ hx;have HM:=H_ hm;clear hx hm;by_cases t0:atB bid=false
  · have HF:=H_ (head_bad (b:=⟨bid,bv,bn,bh,ws,ms⟩) (.inl (t0)))
    go_enter Tryz.func9,Tryz.ntmps9;go_wp2_with ((go_at_call 23; refine (refAtom_any _ _).mono ?_; rintro e w' ⟨rfl,rfl⟩))
    go_ret;exact⟨ret_int HF.out.symm,one_below _ _⟩
  have h0:atB bid=true:=by simpa using t0
  clear t0;by_cases t1:12<bid.size
  · have HF:=H_ (head_bad (b:=⟨bid,bv,bn,bh,ws,ms⟩) (.inr (.inl (t1))))
    have t1a:12<(bid.size:Int):=by omega
    clear t1;go_enter Tryz.func9,Tryz.ntmps9;go_wp2_with ((go_at_call 23; refine (refAtom_any _ _).mono ?_; rintro e w' ⟨rfl,rfl⟩))
    go_ret;exact⟨ret_int HF.out.symm,one_below _ _⟩
  have t1a:(bid.size:Int)<=12:=by omega
  have H1:=H_ (show bid.size<=12 by omega);clear t1;by_cases t2:bv<1
  · have HF:=H_ (head_bad (b:=⟨bid,bv,bn,bh,ws,ms⟩) (.inr (.inr (.inl (inB_false (.inl t2))))))
    go_enter Tryz.func9,Tryz.ntmps9;go_wp2_with ((go_at_call 23; refine (refAtom_any _ _).mono ?_; rintro e w' ⟨rfl,rfl⟩))
    go_ret;exact⟨ret_int HF.out.symm,one_below _ _⟩
  have t2a:1<=bv:=by omega
  clear t2;by_cases r2:1000000<bv
  · have HF:=H_ (head_bad (b:=⟨bid,bv,bn,bh,ws,ms⟩) (.inr (.inr (.inl (inB_false (.inr r2))))))
    go_enter Tryz.func9,Tryz.ntmps9;go_wp2_with ((go_at_call 23; refine (refAtom_any _ _).mono ?_; rintro e w' ⟨rfl,rfl⟩))
    go_ret;exact⟨ret_int HF.out.symm,one_below _ _⟩
  have r2a:bv<=1000000:=by omega
  clear r2;have H2:=H_ (show inB 1 bv 1000000=true from inB_true (by omega) (by omega));by_cases t3:bh<1
  · have HF:=H_ (head_bad (b:=⟨bid,bv,bn,bh,ws,ms⟩) (.inr (.inr (.inr (.inl (inB_false (.inl t3)))))))
    go_enter Tryz.func9,Tryz.ntmps9;go_wp2_with ((go_at_call 23; refine (refAtom_any _ _).mono ?_; rintro e w' ⟨rfl,rfl⟩))
    go_ret;exact⟨ret_int HF.out.symm,one_below _ _⟩
  have t3a:1<=bh:=by omega
  clear t3;by_cases r3:1000000<bh
  · have HF:=H_ (head_bad (b:=⟨bid,bv,bn,bh,ws,ms⟩) (.inr (.inr (.inr (.inl (inB_false (.inr r3)))))))
    go_enter Tryz.func9,Tryz.ntmps9;go_wp2_with ((go_at_call 23; refine (refAtom_any _ _).mono ?_; rintro e w' ⟨rfl,rfl⟩))
    go_ret;exact⟨ret_int HF.out.symm,one_below _ _⟩
  have r3a:bh<=1000000:=by omega
  clear r3;have H3:=H_ (show inB 1 bh 1000000=true from inB_true (by omega) (by omega));by_cases t4:bn<1
  · have HF:=H_ (head_bad (b:=⟨bid,bv,bn,bh,ws,ms⟩) (.inr (.inr (.inr (.inr (inB_false (.inl t4)))))))
    go_enter Tryz.func9,Tryz.ntmps9;go_wp2_with ((go_at_call 23; refine (refAtom_any _ _).mono ?_; rintro e w' ⟨rfl,rfl⟩))
    go_ret;exact⟨ret_int HF.out.symm,one_below _ _⟩
  have t4a:1<=bn:=by omega
  clear t4;by_cases r4:1000000<bn
  · have HF:=H_ (head_bad (b:=⟨bid,bv,bn,bh,ws,ms⟩) (.inr (.inr (.inr (.inr (inB_false (.inr r4)))))))
    go_enter Tryz.func9,Tryz.ntmps9;go_wp2_with ((go_at_call 23; refine (refAtom_any _ _).mono ?_; rintro e w' ⟨rfl,rfl⟩))
    go_ret;exact⟨ret_int HF.out.symm,one_below _ _⟩
  have r4a:bn<=1000000:=by omega
  clear r4;have H4:=H_ (show inB 1 bn 1000000=true from inB_true (by omega) (by omega));have HH:=H_ (head_good (b:=⟨bid,bv,bn,bh,ws,ms⟩) h0 H1.out H2.out H3.out H4.out);by_cases f1:64<wn
  · have HF:=H_ (mb_full HH.out (.inl (show 64<ws.length by have:=HWL.out; omega)))
    have f1a:64<(wn:Int):=by omega
    go_enter Tryz.func9,Tryz.ntmps9;go_wp2_with ((go_at_call 23; refine (refAtom_any _ _).mono ?_; rintro e w' ⟨rfl,rfl⟩))
    go_ret;exact⟨ret_int HF.out.symm,one_below _ _⟩
  have f1a:(wn:Int)<=64:=by omega
  by_cases f2:60<mn
  · have HF:=H_ (mb_full HH.out (.inr (show 60<ms.length by have:=HML.out; omega)))
    have f2a:60<(mn:Int):=by omega
    go_enter Tryz.func9,Tryz.ntmps9;go_wp2_with ((go_at_call 23; refine (refAtom_any _ _).mono ?_; rintro e w' ⟨rfl,rfl⟩))
    go_ret;exact⟨ret_int HF.out.symm,one_below _ _⟩
  have f2a:(mn:Int)<=60:=by omega
  have HN:=H_ (show ¬ (64<ws.length\/60<ms.length) by have:=HWL.out; have:=HML.out; omega);clear f1 f2;go_enter Tryz.func9,Tryz.ntmps9;go_wp2_with ((go_at_call 23; refine (refAtom_any _ _).mono ?_; rintro e w' ⟨rfl,rfl⟩))
  have HB1:=H_ (After.start w (.cells #[.string bid,.int .i64 bv,.int .i64 bn,.int .i64 bh,.slice WA wn wc,.slice MA mn mc] 25));go_loopw [62] (fun s62 wr=>∃ k:Nat,k<=wn/\s62 = .int .i64 k/\Hid (∀ i,i<k->okW ws i)/\Hid (After w (.cells #[.string bid,.int .i64 bv,.int .i64 bn,.int .i64 bh,.slice WA wn wc,.slice MA mn mc] 25) wr)) (fun s62 _=>wn-(intOf s62).toNat)
  case atStart=>exact⟨0,Nat.zero_le _,rfl,fun i hi=>absurd hi (Nat.not_lt_zero _),HB1⟩
  case round =>
    obtain⟨k,hk,rfl,HT,HA⟩:=hrel;by_cases hlt:k<wn
    · obtain⟨ad1,x1,rfl,e1,hc1⟩:=StrsAt.at_ HX.out HA.out.below hB hlt
      obtain⟨b0,b1,b2,b3,b4,b5⟩:=HA.out.box;have g1:(0:Int)<=(k:Int):=by omega
      have g2:(k:Int)<=(wc:Int):=by omega
      cases ha:atB x1 with
      | false =>
        have HF:=H_ (mb_words HH.out HN.out (wordsB_bad e1 (.inl ha)));clear e1;go_wp2_with ((go_at_call 23; refine (refAtom_any _ _).mono ?_; rintro e w' ⟨rfl,rfl⟩))
        go_ret;exact⟨ret_int HF.out.symm,HA.out.below⟩
      | true =>
        have HQ:=H_ ha;have D:=has_any (cp:=wc) x1 (RowAt.take (StrsAt.below HX.out HA.out.below hB) hk);by_cases hm:x1∈ws.take k
        · have HF:=H_ (mb_words HH.out HN.out (wordsB_bad e1 (.inr hm)))
          rw [decide_eq_true hm] at D;have L:=H_ D;clear D hm e1;go_wp2_with (first | (go_at_call 23; refine (refAtom_any _ _).mono ?_; rintro e w' ⟨rfl,rfl⟩) | (go_at_call 24; refine L.out.mono ?_; rintro e w' ⟨rfl,rfl⟩))
          go_ret;exact⟨ret_int HF.out.symm,HA.out.below⟩
        · have HT2:=H_ (okW_next HT.out e1 HQ.out hm)
          rw [decide_eq_false hm] at D;have L:=H_ D;clear D hm e1;go_wp2_with (first | (go_at_call 23; refine (refAtom_any _ _).mono ?_; rintro e w' ⟨rfl,rfl⟩) | (go_at_call 24; refine L.out.mono ?_; rintro e w' ⟨rfl,rfl⟩))
          go_roundw
          case rel=>exact⟨k+1,by omega,by go_num,HT2,HA⟩
          case measure=>simp [intOf]; omega
    · obtain rfl:wn=k:=by omega
      have HWB:=H_ (show wordsB ws=true from wordsB_good (by have:=HWL.out; omega) HT.out);have HMS:=H_ (mb_msgs (b:=⟨bid,bv,bn,bh,ws,ms⟩) HH.out HN.out HWB.out);obtain⟨b0,b1,b2,b3,b4,b5⟩:=HA.out.box;go_wp2_with fail
      clear b0 b1 b2 b3 b4 b5;go_loopw [5,82] (fun s5 s82 wr=>∃ k:Nat,k<=mn/\s82 = .int .i64 k/\(∃ lo:Int,s5 = .int .i64 lo/\Hid (lo=pu ms k))/\Hid (∀ i,i<k->okM ⟨bid,bv,bn,bh,ws,ms⟩ i)/\Hid (After w (.cells #[.string bid,.int .i64 bv,.int .i64 bn,.int .i64 bh,.slice WA wn wc,.slice MA mn mc] 25) wr)) (fun _ s82 _=>mn-(intOf s82).toNat)
      case atStart=>exact⟨0,Nat.zero_le _,rfl,⟨0,rfl,rfl⟩,fun i hi=>absurd hi (Nat.not_lt_zero _),HA⟩
      case round =>
        obtain⟨k2,hk2,rfl,⟨lo,rfl,HL⟩,HT,HA⟩:=hrel;rename_i wr;by_cases hlt:k2<mn
        · obtain⟨ad,u,md,d,id,fl,ks,tx,K,kn,kc,rfl,_,e1,c0,c1,c2,c3,c4,c5,c6,hkc,hks,_,_⟩:=MsgsAt.sp HM.out HA.out.below hB hlt
          obtain⟨b0,b1,b2,b3,b4,b5⟩:=(HA.out.alloc (.cells #[.int .i64 u,.int .i64 md,.int .i64 d,.string id,.int .i64 fl,.slice K kn kc,.string tx] 61)).box
          have C : ∀ o,Calls Tryz.prog 25 #[.agg #[.string bid,.int .i64 bv,.int .i64 bn,.int .i64 bh,.slice WA wn wc,.slice (some ad) mn mc],.agg #[.int .i64 u,.int .i64 md,.int .i64 d,.string id,.int .i64 fl,.slice K kn kc,.string tx]] (wr.alloc o)
              fun e w'=>e = .returned (.int .i64 (mmE wn ⟨u,md,d,id,fl,ks,tx⟩))/\Below (wr.alloc o).heap.size (wr.alloc o) w':=fun o =>
            refMayMsg_cells (IntsAt.below hks ((Below.refl wr.heap.size _).alloc lr_ o) (by have:=HA.out.size; omega)) (by have:=HA.out.size; simp; omega) hwn
          have HC:=H_ (fun o=>(HA.out.alloc o));clear hks;cases hq:mmB wn ⟨u,md,d,id,fl,ks,tx⟩ with
          | false =>
            have HF:=H_ (msE_bad (b:=⟨bid,bv,bn,bh,ws,ms⟩) e1 (.inl (by have:=HWL.out; subst this; exact hq)));rw [mmE_false hq] at C;have K1:=H_ C;clear C hq e1;go_wp2_with (go_at_call 25; refine (K1.out _).mono ?_; rintro e w1 ⟨rfl,hb1⟩)
            go_ret;exact⟨ret_int (HMS.out.trans HF.out).symm,((HC.out _).go hb1).below⟩
          | true =>
            have HQ:=H_ hq;rw [mmE_true hq] at C;have K1:=H_ C;clear C hq;by_cases h1:u<=lo
            · have HF:=H_ (msE_bad (b:=⟨bid,bv,bn,bh,ws,ms⟩) e1 (.inr (.inl (by have:=HL.out; subst this; exact h1))))
              clear e1;go_wp2_with fail
              refine (K1.out _).mono ?_;rintro e w1 ⟨rfl,hb1⟩;have HD:=H_ ((HC.out _).go hb1);obtain⟨d0,d1,d2,d3,d4,d5,d6⟩:=msg_new hb1;clear hb1;go_wp2_with fail
              go_ret;exact⟨ret_int (HMS.out.trans HF.out).symm,HD.out.below⟩
            by_cases h2:bn<=u
            · have HF:=H_ (msE_bad (b:=⟨bid,bv,bn,bh,ws,ms⟩) e1 (.inr (.inr (.inl h2))))
              have h1':lo<u:=by omega
              clear e1 h1;go_wp2_with fail
              refine (K1.out _).mono ?_;rintro e w1 ⟨rfl,hb1⟩;have HD:=H_ ((HC.out _).go hb1);obtain⟨d0,d1,d2,d3,d4,d5,d6⟩:=msg_new hb1;obtain⟨f0,f1,f2,f3,f4,f5⟩:=HD.out.box;clear hb1;go_wp2_with fail
              go_ret;exact⟨ret_int (HMS.out.trans HF.out).symm,HD.out.below⟩
            by_cases h3:bh<md
            · have HF:=H_ (msE_bad (b:=⟨bid,bv,bn,bh,ws,ms⟩) e1 (.inr (.inr (.inr h3))))
              have h1':lo<u:=by omega
              have h2':u<bn:=by omega
              clear e1 h1 h2;go_wp2_with fail
              refine (K1.out _).mono ?_;rintro e w1 ⟨rfl,hb1⟩;have HD:=H_ ((HC.out _).go hb1);obtain⟨d0,d1,d2,d3,d4,d5,d6⟩:=msg_new hb1;obtain⟨f0,f1,f2,f3,f4,f5⟩:=HD.out.box;clear hb1;go_wp2_with fail
              go_ret;exact⟨ret_int (HMS.out.trans HF.out).symm,HD.out.below⟩
            · have h1':lo<u:=by omega
              have h2':u<bn:=by omega
              have h3':md<=bh:=by omega
              have HT2:=H_ (okM_next HT.out e1 (by have:=HWL.out; subst this; exact HQ.out) (by have:=HL.out; subst this; exact h1') h2' h3');have HP:=H_ (pu_succ e1);clear e1 h1 h2 h3;go_wp2_with fail
              refine (K1.out _).mono ?_;rintro e w1 ⟨rfl,hb1⟩;have HD:=H_ ((HC.out _).go hb1);obtain⟨d0,d1,d2,d3,d4,d5,d6⟩:=msg_new hb1;obtain⟨f0,f1,f2,f3,f4,f5⟩:=HD.out.box;clear hb1;go_wp2_with fail
              go_roundw
              case rel=>exact⟨k2+1,by omega,by go_num,⟨_,rfl,HP.out.symm⟩,HT2,HD⟩
              case measure=>simp [intOf]; omega
        · obtain rfl:mn=k2:=by omega
          have HF:=H_ (HMS.out.trans (msE_good (b:=⟨bid,bv,bn,bh,ws,ms⟩) (k:=mn) (by have:=HML.out; show ms.length<=mn; omega) HT.out));go_wp2_with fail
          go_ret;exact⟨ret_int HF.out.symm,HA.out.below⟩
end Go.Proofs.YtoljpfapphoflaaGreatDoor.BxB
