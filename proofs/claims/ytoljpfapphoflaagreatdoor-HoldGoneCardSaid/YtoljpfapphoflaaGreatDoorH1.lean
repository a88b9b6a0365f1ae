/-
  HoD + HoF + HoK
-/
import Derived.Test.YtoljpfapphoflaaGreatDoorZ9
import Derived.Test.YtoljpfapphoflaaGreatDoorK8
import Derived.Test.YtoljpfapphoflaaGreatDoorS7
import Derived.Test.YtoljpfapphoflaaGreatDoorK6
set_option linter.unusedVariables false
set_option linter.unusedSimpArgs false
set_option maxRecDepth 512
namespace Go.Proofs.YtoljpfapphoflaaGreatDoor.HoD
open Go.RowKit BxD BxOp RwD RwM PkA PkB PkD PkF OlD PtD PtR RpD RdD ImD
def nB (x:Int):Prop:=0<=x/\x<=1000000
def Gr (r:Row):Prop :=
 (∃ n m,mmB n m=true/\n<=64/\r=⟨1,0,0,m,nX⟩) \/
 (∃ n u md fl ks,nB u/\nB md/\nB fl/\keysB ks n=true/\n<=64/\r=⟨2,u,md,⟨0,0,0,nX,fl,ks,nX⟩,nX⟩) \/
 (∃ k u md,(k=3\/k=6)/\nB u/\nB md/\r=⟨k,u,md,noM,nX⟩) \/
 (∃ t:ByteArray,t.size<=24/\r=⟨4,0,0,noM,t⟩) \/
 (∃ u,∃ t:ByteArray,nB u/\t.size<=24/\r=⟨5,u,0,noM,t⟩) \/
 (∃ md,nB md/\r=⟨7,0,md,noM,nX⟩)
theorem toN {x:Int} (h:nB x):((x.toNat:Nat):Int)=x:=Int.toNat_of_nonneg h.1
theorem gd_two {n:Nat} {u md fl:Int} {ks:List Int} (h1:nB u) (h2:nB md) (h3:nB fl) (h4:keysB ks n=true) (hn:n<=64):Gd ⟨2,u,md,⟨0,0,0,nX,fl,ks,nX⟩,nX⟩:=by
 intro rest ov;have e:rob ⟨2,u,md,⟨0,0,0,nX,fl,ks,nX⟩,nX⟩=nums [2]++(nums [u]++(nums [md]++(nums [fl]++(nums [((ks.length:Nat):Int)]++nums ks)))):=by
  unfold rob flb;rw [if_neg (show ¬ ((2:Int)=1) by decide),if_pos rfl,nums_cons u,nums_cons fl];simp only [List.append_assoc]
 rw [e];simp only [List.append_assoc];unfold roS;rw [nt_good (by decide) (m:=1000000) (by decide) (by decide)];rw [if_neg (show ¬ ((2:Int).toNat=1) by decide),if_pos (show (2:Int).toNat=2 by decide)];simp only;rw [nt_good h1.1 (m:=1000000) (by exact h1.2) (by decide)];simp only;rw [nt_good h2.1 (m:=1000000) (by exact h2.2) (by decide)];simp only;rw [nt_good h3.1 (m:=1000000) (by exact h3.2) (by decide)];simp only;rw [kyR_good h4 hn];simp only [toN h1,toN h2,toN h3]
theorem gd_three {k u md:Int} (hk:k=3\/k=6) (h1:nB u) (h2:nB md):Gd ⟨k,u,md,noM,nX⟩:=by
 intro rest ov;have e:rob ⟨k,u,md,noM,nX⟩=nums [k]++(nums [u]++nums [md]):=by
  unfold rob;rw [if_neg (show ¬ (k=1) by omega),if_neg (show ¬ (k=2) by omega),if_pos hk,nums_cons u]
 rw [e];simp only [List.append_assoc];unfold roS;rw [nt_good (by omega) (m:=1000000) (by omega) (by decide)];rw [if_neg (show ¬ (k.toNat=1) by omega),if_neg (show ¬ (k.toNat=2) by omega),if_pos (show k.toNat=3\/k.toNat=6 by omega)];simp only;rw [nt_good h1.1 (m:=1000000) (by exact h1.2) (by decide)];simp only;rw [nt_good h2.1 (m:=1000000) (by exact h2.2) (by decide)];simp only [toN h1,toN h2,show ((k.toNat:Nat):Int)=k by omega]
theorem gd_five {u:Int} {t:ByteArray} (h1:nB u) (ht:t.size<=24):Gd ⟨5,u,0,noM,t⟩:=by
 intro rest ov;have e:rob ⟨5,u,0,noM,t⟩=nums [5]++(nums [u]++tx t):=by
  unfold rob;rw [if_neg (show ¬ ((5:Int)=1) by decide),if_neg (show ¬ ((5:Int)=2) by decide),if_neg (show ¬ ((5:Int)=3\/(5:Int)=6) by decide),if_neg (show ¬ ((5:Int)=4) by decide),if_pos rfl]
 rw [e];simp only [List.append_assoc];unfold roS;rw [nt_good (by decide) (m:=1000000) (by decide) (by decide)];rw [if_neg (show ¬ ((5:Int).toNat=1) by decide),if_neg (show ¬ ((5:Int).toNat=2) by decide),if_neg (show ¬ ((5:Int).toNat=3\/(5:Int).toNat=6) by decide),if_neg (show ¬ ((5:Int).toNat=4) by decide),if_pos (show (5:Int).toNat=5 by decide)];simp only;rw [nt_good h1.1 (m:=1000000) (by exact h1.2) (by decide)];simp only;rw [t24 ht];simp only [toN h1]
theorem gd_seven {md:Int} (h2:nB md):Gd ⟨7,0,md,noM,nX⟩:=by
 intro rest ov;have e:rob ⟨7,0,md,noM,nX⟩=nums [7]++nums [md]:=by
  unfold rob;rw [if_neg (show ¬ ((7:Int)=1) by decide),if_neg (show ¬ ((7:Int)=2) by decide),if_neg (show ¬ ((7:Int)=3\/(7:Int)=6) by decide),if_neg (show ¬ ((7:Int)=4) by decide),if_neg (show ¬ ((7:Int)=5) by decide),if_pos rfl]
 rw [e];simp only [List.append_assoc];unfold roS;rw [nt_good (by decide) (m:=1000000) (by decide) (by decide)];rw [if_neg (show ¬ ((7:Int).toNat=1) by decide),if_neg (show ¬ ((7:Int).toNat=2) by decide),if_neg (show ¬ ((7:Int).toNat=3\/(7:Int).toNat=6) by decide),if_neg (show ¬ ((7:Int).toNat=4) by decide),if_neg (show ¬ ((7:Int).toNat=5) by decide),if_pos (show (7:Int).toNat=7 by decide)];rw [nt_good h2.1 (m:=1000000) (by exact h2.2) (by decide)];simp only [toN h2]
theorem Gr.gd {r:Row} (h:Gr r):Gd r:=by
 rcases h with⟨n,m,h1,h2,rfl⟩ | ⟨n,u,md,fl,ks,h1,h2,h3,h4,h5,rfl⟩ | ⟨k,u,md,hk,h1,h2,rfl⟩ | ⟨t,h1,rfl⟩ | ⟨u,t,h1,h2,rfl⟩ | ⟨md,h1,rfl⟩
 · exact gd_msg h1 h2
 · exact gd_two h1 h2 h3 h4 h5
 · exact gd_three hk h1 h2
 · exact gd_word h1
 · exact gd_five h1 h2
 · exact gd_seven h1
theorem tx_le (s:ByteArray) (h:s.size<=1000000):(tx s).length<=6+s.size:=by
 have h1:=uv_len (m:=s.size) (by omega);have h2:s.data.toList.length=s.size:=by rw [Array.length_toList]; rfl
 unfold tx;rw [List.length_append];omega
theorem nums_keys : ∀ {ks:List Int},(∀ k∈ks,0<=k/\k<=63)->(nums ks).length<=ks.length
 | [],_=>Nat.le_refl _
 | k::r,h=>by
  have h1:=h k (by simp);have h2:=nums_keys (ks:=r) fun x hx=>h x (by simp [hx]);have h3:(Lib.uvarint (cl k)).length<=0+1:=Lib.uvarint_length 0 (cl k) (by unfold cl; omega);rw [nums_cons,nums_one,List.length_append,List.length_cons];omega
theorem Gr.len {r:Row} (h:Gr r):(rob r).length<=436:=by
 rcases h with⟨n,m,h1,h2,rfl⟩ | ⟨n,u,md,fl,ks,h1,h2,h3,h4,h5,rfl⟩ | ⟨k,u,md,hk,h1,h2,rfl⟩ | ⟨t,h1,rfl⟩ | ⟨u,t,h1,h2,rfl⟩ | ⟨md,h1,rfl⟩
 · obtain⟨g1,g2,g3,g4,g5,g6,g7⟩:=PtD.mm_parts h1
   have k1:=(keys_fit g6 h2).2;have a1:=nums_len [(1:Int)];have a2:=nums_len [m.uid,m.mod,m.date];have a3:=nums_len [m.flags,((m.keys.length:Nat):Int)];have a4:=nums_keys (keys_fit g6 h2).1;have a5:=tx_le m.id (by have:=(atB_size g4).2; omega);have a6:=tx_le m.text (by omega);have a7:=(atB_size g4).2;have e:=rob_msg m;have e2:rob ⟨1,0,0,m,nX⟩=nums [1]++msb m:=e;rw [e2];unfold msb flb;simp only [List.length_append,List.length_cons,List.length_nil] at *;omega
 · have k1:=(keys_fit h4 h5).2
   have a1:=nums_len [(2:Int)];have a2:=nums_len [u,md];have a3:=nums_len [fl,((ks.length:Nat):Int)];have a4:=nums_keys (keys_fit h4 h5).1;unfold rob flb;rw [if_neg (show ¬ ((2:Int)=1) by decide),if_pos rfl];simp only [List.length_append,List.length_cons,List.length_nil] at *;omega
 · have a1:=nums_len [k]
   have a2:=nums_len [u,md];unfold rob;rw [if_neg (show ¬ (k=1) by omega),if_neg (show ¬ (k=2) by omega),if_pos hk];simp only [List.length_append,List.length_cons,List.length_nil] at *;omega
 · have a1:=nums_len [(4:Int)]
   have a2:=tx_le t (by omega);have e:=rob_word t;unfold wRow at e;have e2:rob ⟨4,0,0,noM,t⟩=nums [4]++tx t:=e;rw [e2];simp only [List.length_append,List.length_cons,List.length_nil] at *;omega
 · have a1:=nums_len [(5:Int)]
   have a2:=nums_len [u];have a3:=tx_le t (by omega);unfold rob;rw [if_neg (show ¬ ((5:Int)=1) by decide),if_neg (show ¬ ((5:Int)=2) by decide),if_neg (show ¬ ((5:Int)=3\/(5:Int)=6) by decide),if_neg (show ¬ ((5:Int)=4) by decide),if_pos rfl];simp only [List.length_append,List.length_cons,List.length_nil] at *;omega
 · have a1:=nums_len [(7:Int)]
   have a2:=nums_len [md];unfold rob;rw [if_neg (show ¬ ((7:Int)=1) by decide),if_neg (show ¬ ((7:Int)=2) by decide),if_neg (show ¬ ((7:Int)=3\/(7:Int)=6) by decide),if_neg (show ¬ ((7:Int)=4) by decide),if_neg (show ¬ ((7:Int)=5) by decide),if_pos rfl];simp only [List.length_append,List.length_cons,List.length_nil] at *;omega
theorem Gr.keys {r:Row} (h:Gr r):r.msg.keys.length<=64/\r.msg.id.size<=24/\r.msg.text.size<=300/\r.text.size<=24:=by
 have z:nX.size<=24:=Nat.zero_le _;have z3:nX.size<=300:=Nat.zero_le _;have nm:noM.keys.length<=64/\noM.id.size<=24/\noM.text.size<=300:=⟨Nat.zero_le _,Nat.zero_le _,Nat.zero_le _⟩;rcases h with⟨n,m,h1,h2,rfl⟩ | ⟨n,u,md,fl,ks,h1,h2,h3,h4,h5,rfl⟩ | ⟨k,u,md,hk,h1,h2,rfl⟩ | ⟨t,h1,rfl⟩ | ⟨u,t,h1,h2,rfl⟩ | ⟨md,h1,rfl⟩
 · obtain⟨g1,g2,g3,g4,g5,g6,g7⟩:=PtD.mm_parts h1
   exact⟨(keys_fit g6 h2).2,(atB_size g4).2,g7,z⟩
 · exact⟨(keys_fit h4 h5).2,z,z3,z⟩
 · exact⟨nm.1,nm.2.1,nm.2.2,z⟩
 · exact⟨nm.1,nm.2.1,nm.2.2,h1⟩
 · exact⟨nm.1,nm.2.1,nm.2.2,h2⟩
 · exact⟨nm.1,nm.2.1,nm.2.2,z⟩
theorem gr_all {l:List Row} (h : ∀ r∈l,Gr r) (hl:l.length<=200):parseR (bytesR l)=(l,0)/\l.all backR=true/\bytesR l=l.flatMap rob:=by
 have h0:=back_all (fun r hr=>(h r hr).gd) hl;have hb:l.all backR=true:=by
  rw [List.all_eq_true];intro r hr;unfold backR;refine decide_eq_true ?_;have:=pr_all [r] [] 202 (fun x hx=>by rw [List.mem_singleton] at hx; rw [hx]; exact (h r hr).gd) (by simp) (by simp);unfold parseR;simpa using this
 refine⟨h0,hb, ?_⟩;unfold bytesR;rw [if_neg (by omega),if_pos hb]
theorem flat_rob : ∀ {l:List Row},(∀ r∈l,Gr r)->(l.flatMap rob).length<=436*l.length
 | [],_=>by simp
 | r::l,h=>by
  have h1:=(h r (by simp)).len;have h2:=flat_rob (l:=l) fun x hx=>h x (by simp [hx]);rw [List.flatMap_cons,List.length_append,List.length_cons,Nat.mul_add];omega
theorem gr_len {l:List Row} (h : ∀ r∈l,Gr r) (hl:l.length<=200):(bytesR l).length<=87200:=by
 rw [(gr_all h hl).2.2];have:=flat_rob h;have h2:436*l.length<=436*200:=Nat.mul_le_mul_left _ hl;omega
theorem pr_pre : ∀ (f:Nat) (acc:List Row) (s:St) (l:List Row),prR f acc s=(l,0)->∃ l',l=acc++l'
 | 0,acc,_,l,h=>by
  unfold prR at h;exact⟨[],by rw [List.append_nil]; exact (congrArg Prod.fst h).symm⟩
 | f+1,acc,s,l,h=>by
  unfold prR at h;split at h
  · exact⟨[],by rw [List.append_nil]; exact (congrArg Prod.fst h).symm⟩
  · split at h
    · exact absurd (congrArg Prod.snd h) (by simp)
    · split at h
      · obtain⟨l',e⟩:=pr_pre f _ _ l h
        exact⟨(roS s).1::l',by rw [e,List.append_assoc]; rfl⟩
      · rename_i hz
        have e2:((firstS (roS s).2:Nat):Int)=0:=congrArg Prod.snd h;exact absurd (by omega) hz
theorem back_is {r:Row} (h:backR r=true):r=(roS (rob r,0,false)).1:=by
 unfold backR at h;have h2:=of_decide_eq_true h;unfold parseR at h2;have h3:prR 202 [] (rob r,0,false)=if (rob r,0,false).1.length=0 then ([],0) else if ([]:List Row).length=200 then ([],4) else if firstS (roS (rob r,0,false)).2=0 then prR 201 ([]++[(roS (rob r,0,false)).1]) (roS (rob r,0,false)).2 else ([],(firstS (roS (rob r,0,false)).2:Nat)):=rfl;rw [h3,if_neg (rob_ne r),if_neg (by simp)] at h2;split at h2
 · obtain⟨l',e⟩:=pr_pre 201 _ _ _ h2
   rw [List.nil_append,List.singleton_append] at e;injection e with e
 · exact absurd (congrArg Prod.fst h2) (by simp)
theorem ro_shape (s:St) (r:Row) (hr:r=(roS s).1) :
 (r.kind=1->r.uid=0/\r.mod=0/\r.text=nX)/\(r.kind=2->(∃ fl ks,r.msg=⟨0,0,0,nX,fl,ks,nX⟩)/\r.text=nX)/\(r.kind=3\/r.kind=6->r.msg=noM/\r.text=nX) /\
 (r.kind=4->r.uid=0/\r.mod=0/\r.msg=noM)/\(r.kind=5->r.mod=0/\r.msg=noM)/\(r.kind=7->r.uid=0/\r.msg=noM/\r.text=nX):=by
 subst hr;unfold roS;generalize ntS 1000000=N;simp only;by_cases h1:(N s).1=1
 · rw [if_pos h1]
   refine⟨fun _=>⟨rfl,rfl,rfl⟩,fun h=>?_,fun h=>?_,fun h=>?_,fun h=>?_,fun h=>?_⟩ <;> simp at h
 rw [if_neg h1];by_cases h2:(N s).1=2
 · rw [if_pos h2]
   refine⟨fun h=>?_,fun _=>⟨⟨_,_,rfl⟩,rfl⟩,fun h=>?_,fun h=>?_,fun h=>?_,fun h=>?_⟩ <;> simp at h
 rw [if_neg h2];by_cases h3:(N s).1=3\/(N s).1=6
 · rw [if_pos h3]
   refine⟨fun h=>?_,fun h=>?_,fun _=>⟨rfl,rfl⟩,fun h=>?_,fun h=>?_,fun h=>?_⟩
   all_goals (simp only at h; omega)
 rw [if_neg h3];by_cases h4:(N s).1=4
 · rw [if_pos h4]
   refine⟨fun h=>?_,fun h=>?_,fun h=>?_,fun _=>⟨rfl,rfl,rfl⟩,fun h=>?_,fun h=>?_⟩ <;> simp at h
 rw [if_neg h4];by_cases h5:(N s).1=5
 · rw [if_pos h5]
   refine⟨fun h=>?_,fun h=>?_,fun h=>?_,fun h=>?_,fun _=>⟨rfl,rfl⟩,fun h=>?_⟩ <;> simp at h
 rw [if_neg h5];by_cases h7:(N s).1=7
 · rw [if_pos h7]
   refine⟨fun h=>?_,fun h=>?_,fun h=>?_,fun h=>?_,fun h=>?_,fun _=>⟨rfl,rfl,rfl⟩⟩ <;> simp at h
 · rw [if_neg h7]
   refine⟨fun h=>?_,fun h=>?_,fun h=>?_,fun h=>?_,fun h=>?_,fun h=>?_⟩
   all_goals (simp only at h; omega)
theorem uid_in {b:Box} (h:mbE b=0) {u:Int} (hu : ¬ findI b.msgs u<0):nB u:=by
 obtain⟨m,hm,rfl⟩:=find_mem (ms:=b.msgs) (u:=u) (by omega);have:=(RwD.mm_parts (((mb_iff b).1 h).2.2.2.2.1 m hm).1).1;exact⟨by omega,by omega⟩
theorem mod_in {n:Int} (h:modB n=true):nB n:=by
 unfold modB inB at h;simp at h;exact⟨by omega,by omega⟩
theorem gr_of {b:Box} {r:Row} (h:apE b r=0) (hb:backR r=true):Gr r:=by
 have hm:=apE_may h;obtain⟨s1,s2,s3,s4,s5,s7⟩:=ro_shape _ r (back_is hb);have hw:=((mb_iff b).1 hm).2.1;unfold apE at h;rw [if_neg (by simp [hm])] at h;obtain⟨kd,u,md,m,t⟩:=r;dsimp only at *;by_cases k1:kd=1
 · subst k1
   obtain⟨rfl,rfl,rfl⟩:=s1 rfl;rw [if_pos rfl] at h;split at h
   · exact absurd h (by decide)
   · split at h
     · exact absurd h (by decide)
     · rename_i hmm
       exact .inl ⟨_,m,by simpa using hmm,hw,rfl⟩
 rw [if_neg k1] at h;by_cases k4:kd=4
 · subst k4
   obtain⟨rfl,rfl,rfl⟩:=s4 rfl;rw [if_pos rfl] at h;split at h
   · exact absurd h (by decide)
   · rename_i hat
     exact .inr (.inr (.inr (.inl ⟨t,(atB_size (by simpa using hat)).2,rfl⟩)))
 rw [if_neg k4] at h;by_cases k7:kd=7
 · subst k7
   obtain⟨rfl,rfl,rfl⟩:=s7 rfl;rw [if_pos rfl] at h;split at h
   · rename_i hmd
     exact .inr (.inr (.inr (.inr (.inr ⟨md,mod_in hmd,rfl⟩))))
   · exact absurd h (by decide)
 rw [if_neg k7] at h;split at h
 case isFalse=>exact absurd h (by decide)
 rename_i hk;split at h
 · exact absurd h (by decide)
 rename_i hf;have hu:=uid_in hm hf;by_cases k5:kd=5
 · subst k5
   obtain⟨rfl,rfl⟩:=s5 rfl;rw [if_pos rfl] at h;split at h
   · rename_i hat
     exact .inr (.inr (.inr (.inr (.inl ⟨u,t,hu,(atB_size hat).2,rfl⟩))))
   · exact absurd h (by decide)
 rw [if_neg k5] at h;split at h
 · exact absurd h (by decide)
 rename_i h2;split at h
 case isFalse=>exact absurd h (by decide)
 rename_i hmd;by_cases k2:kd=2
 · subst k2
   obtain⟨⟨fl,ks,rfl⟩,rfl⟩:=s2 rfl;have h3:(flB fl&&keysB ks b.words.length)=true:=by
    cases hq:(flB fl&&keysB ks b.words.length) with
    | true=>rfl
    | false=>exact absurd ⟨rfl,hq⟩ h2
   rw [Bool.and_eq_true] at h3;have hfl:nB fl:=by
    have:=h3.1;unfold flB inB at this;simp at this;exact⟨by omega,by omega⟩
   exact .inr (.inl ⟨_,u,md,fl,ks,hu,mod_in hmd,hfl,h3.2,hw,rfl⟩)
 · obtain⟨rfl,rfl⟩:=s3 (by omega)
   exact .inr (.inr (.inl ⟨kd,u,md,by omega,hu,mod_in hmd,rfl⟩))
theorem allG_gr : ∀ {l:List Row} {b:Box},(allG b l).2=0->l.all backR=true->∀ r∈l,Gr r
 | [],_,_,_=>fun r hr=>by simp at hr
 | r::l,b,h,hb=>by
  rw [allG_cons] at h;rw [List.all_cons,Bool.and_eq_true] at hb;split at h
  · rename_i he
    intro x hx;rcases List.mem_cons.1 hx with rfl | hx
    · exact gr_of he hb.1
    · exact allG_gr h hb.2 x hx
  · rename_i he
    exact absurd h he
theorem re_gr {f:Fm} {b:Box} (h:mbE b=0) : ∀ r∈re f b,Gr r:=by
 obtain⟨h1,h2,h3,h4,h5,h6⟩:=(mb_iff b).1 h;obtain⟨_,_,_,g4,_⟩:=head_parts h1;intro r hr;unfold re at hr;rcases List.mem_append.1 hr with hr | hr
 · unfold reH at hr
   split at hr
   · rw [List.mem_singleton] at hr
     exact .inr (.inr (.inr (.inr (.inr ⟨b.high,⟨by omega,by omega⟩,hr⟩))))
   · simp at hr
 rcases List.mem_append.1 hr with hr | hr
 · obtain⟨s,hs,rfl⟩:=List.mem_map.1 hr
   exact .inr (.inr (.inr (.inl ⟨s,(atB_size (((wordsB_iff _).1 h4).1 s (List.mem_of_mem_drop hs))).2,rfl⟩)))
 obtain⟨m,hm,hx⟩:=List.mem_flatMap.1 hr;obtain⟨q1,q2,q3,q4,q5,q6,q7⟩:=RwD.mm_parts (h5 m hm).1;unfold reM reA reB reC at hx;rcases List.mem_append.1 hx with hx | hx
 · split at hx
   · rw [List.mem_singleton] at hx
     exact .inr (.inl ⟨_,m.uid,m.mod,m.flags,m.keys,⟨by omega,by omega⟩,⟨by omega,by omega⟩,⟨by omega,by omega⟩,q6,h2,hx⟩)
   · simp at hx
 rcases List.mem_append.1 hx with hx | hx
 · split at hx
   · rw [List.mem_singleton] at hx
     exact .inr (.inr (.inr (.inr (.inl ⟨m.uid,m.id,⟨by omega,by omega⟩,(atB_size q4).2,hx⟩))))
   · simp at hx
 · split at hx
   · rw [List.mem_singleton] at hx
     exact .inr (.inr (.inl ⟨6,m.uid,m.mod,.inr rfl,⟨by omega,by omega⟩,⟨by omega,by omega⟩,hx⟩))
   · simp at hx
def moE (b:Box) (l part:List Row):Int :=
 if (allG b part).2≠0 then (allG b part).2 else if 200<l.length+part.length then 4
 else if (bytesR (l++part)).length=0/\0<part.length then 1 else 0
theorem bytes_no0 {l:List Row} (h:l.all backR≠true):bytesR l=[]:=by
 unfold bytesR;rw [if_neg h,ite_self]
theorem mo_gr {b:Box} {l part:List Row} (hl : ∀ r∈l,Gr r) (h:moE b l part=0):(∀ r∈l++part,Gr r)/\(l++part).length<=200/\(allG b part).2=0:=by
 unfold moE at h;split at h
 · rename_i h1; exact absurd h h1
 rename_i h1;have h1:(allG b part).2=0:=Decidable.not_not.1 h1;split at h
 · exact absurd h (by decide)
 rename_i h2;have hlen:(l++part).length<=200:=by rw [List.length_append]; omega
 refine⟨?_,hlen,h1⟩;split at h
 · exact absurd h (by decide)
 rename_i h3;intro r hr;rcases List.mem_append.1 hr with hr | hr
 · exact hl r hr
 have hp:0<part.length:=List.length_pos_of_mem hr;have hb:(l++part).all backR=true:=by
  cases hq:(l++part).all backR with
  | true=>rfl
  | false=>exact absurd ⟨by rw [bytes_no0 (by rw [hq]; decide)]; rfl,hp⟩ h3
 rw [List.all_append,Bool.and_eq_true] at hb;exact allG_gr h1 hb.2 r hr
end Go.Proofs.YtoljpfapphoflaaGreatDoor.HoD

set_option maxRecDepth 512
namespace Go.Proofs.YtoljpfapphoflaaGreatDoor.HoF
open Go.RowKit BxD RkO RkC RkD SfB SfD SfT SfU SfV
open RwD (allG mb_iff head_parts)
open RpD (bytesR parseR)
open ImD (re pj)
open ImL (rawI fmI)
open HoD (Gr gr_len)
def fI (id:ByteArray):ByteArray:=⟨#[105]⟩++id
def fR (id:ByteArray):ByteArray:=⟨#[114]⟩++id
def fS (id:ByteArray):ByteArray:=⟨#[115]⟩++id
theorem sz1 (c:UInt8) (id:ByteArray):(⟨#[c]⟩++id:ByteArray).size=1+id.size:=by rw [ByteArray.size_append]; rfl
theorem one_inj {c d:UInt8} {a b:ByteArray} (h:(⟨#[c]⟩++a:ByteArray)=⟨#[d]⟩++b):c=d/\a=b:=by
 have h1:=congrArg (fun x:ByteArray=>x.data.toList) h;simp only [ByteArray.data_append,Array.toList_append] at h1;have h2:[c]++a.data.toList=[d]++b.data.toList:=h1;injection h2 with h3 h4;refine⟨h3, ?_⟩;cases a; cases b
 congr 1
 exact Array.ext' h4
def chPut (id:ByteArray) (x y:List UInt8):List Ch:=[⟨fI id,false,x⟩,⟨fR id,false,y⟩,⟨fS id,true,[]⟩]
def chGone (id:ByteArray):List Ch:=[⟨fI id,true,[]⟩,⟨fR id,true,[]⟩,⟨fS id,true,[]⟩]
theorem no_redo (c:UInt8) (id:ByteArray) (hc:c≠61):(⟨#[c]⟩++id:ByteArray)≠nR:=by
 intro e;have e2:nR=⟨#[61]⟩++⟨#[114,101,100,111]⟩:=by decide
 rw [e2] at e;exact hc (one_inj e).1
theorem ne_name {c d:UInt8} (h:c≠d) (a b:ByteArray):(⟨#[c]⟩++a:ByteArray)≠⟨#[d]⟩++b:=fun e=>h (one_inj e).1
theorem ch_ok {c:UInt8} {id:ByteArray} {ct:Bool} {d:List UInt8} (hc:c≠61) (hi:id.size<=12) (hd:d.length<=200000):chBad ⟨⟨#[c]⟩++id,ct,d⟩=false:=by
 unfold chBad;have h1:=sz1 c id;rw [decide_eq_false (no_redo c id hc),decide_eq_false (show ¬ ((⟨#[c]⟩++id:ByteArray).size=0) by omega),decide_eq_false (show ¬ (24<(⟨#[c]⟩++id:ByteArray).size) by omega),decide_eq_false (show ¬ (200000<d.length) by omega)];rfl
theorem may_put {id:ByteArray} {x y:List UInt8} (hi:id.size<=12) (hx:x.length<=200000) (hy:y.length<=200000):mayL (chPut id x y)=true:=by
 unfold mayL chPut;rw [Bool.and_eq_true];refine⟨?_,decide_eq_true ?_⟩
 · simp only [List.all_cons,List.all_nil,fI,fR,fS]
   rw [ch_ok (by decide) hi hx,ch_ok (by decide) hi hy,ch_ok (by decide) hi (by simp)];rfl
 · simp only [List.map_cons,List.map_nil,fI,fR,fS,List.nodup_cons,List.mem_cons,List.not_mem_nil,or_false,not_or,List.nodup_nil,and_true,not_false_eq_true]
   exact⟨⟨ne_name (by decide) _ _,ne_name (by decide) _ _⟩,ne_name (by decide) _ _⟩
theorem may_gone {id:ByteArray} (hi:id.size<=12):mayL (chGone id)=true:=by
 unfold mayL chGone;rw [Bool.and_eq_true];refine⟨?_,decide_eq_true ?_⟩
 · simp only [List.all_cons,List.all_nil,fI,fR,fS]
   rw [ch_ok (by decide) hi (by simp),ch_ok (by decide) hi (by simp),ch_ok (by decide) hi (by simp)];rfl
 · simp only [List.map_cons,List.map_nil,fI,fR,fS,List.nodup_cons,List.mem_cons,List.not_mem_nil,or_false,not_or,List.nodup_nil,and_true,not_false_eq_true]
   exact⟨⟨ne_name (by decide) _ _,ne_name (by decide) _ _⟩,ne_name (by decide) _ _⟩
theorem mxu_sum (n:ByteArray) (c:Nat) : ∀ G,sum2 (mxu n c G)<=sum2 G+c/\(mxu n c G).length<=G.length+1
 | []=>by simp [mxu,sum2]
 | p::r=>by
  obtain⟨h1,h2⟩:=mxu_sum n c r;unfold mxu;split
  · simp only [sum2,List.map_cons,List.sum_cons,List.length_cons]; omega
  · simp only [sum2,List.map_cons,List.sum_cons,List.length_cons] at *; omega
theorem gr1_sum : ∀ (l:List F) (G:List (ByteArray × Nat)),sum2 (gr1 l G)<=sum2 G+costs l/\(gr1 l G).length<=G.length+l.length
 | [],G=>by simp [gr1,costs]
 | f::r,G=>by
  obtain⟨h1,h2⟩:=gr1_sum r (mxu f.1 (cst f.1 f.2) G);obtain⟨h3,h4⟩:=mxu_sum f.1 (cst f.1 f.2) G;have e:gr1 (f::r) G=gr1 r (mxu f.1 (cst f.1 f.2) G):=rfl;have e2:costs (f::r)=cst f.1 f.2+costs r:=rfl;rw [e,e2,List.length_cons];omega
def cchs (l:List Ch):Nat:=(l.map fun c=>c.name.size+c.data.length+20).sum
theorem gr2_sum : ∀ (l:List Ch) (G:List (ByteArray × Nat)),sum2 (gr2 l G)<=sum2 G+cchs l/\(gr2 l G).length<=G.length+l.length
 | [],G=>by simp [gr2,cchs]
 | c::r,G=>by
  have e:gr2 (c::r) G=gr2 r (if c.cut then G else mxu c.name (cst c.name c.data) G):=rfl;have e2:cchs (c::r)=(c.name.size+c.data.length+20)+cchs r:=rfl;have h5:cst c.name c.data=c.name.size+c.data.length+8:=rfl;rw [e,e2,List.length_cons];cases c.cut with
  | true =>
   obtain⟨h1,h2⟩:=gr2_sum r G;simp only [if_true];omega
  | false =>
   obtain⟨h1,h2⟩:=gr2_sum r (mxu c.name (cst c.name c.data) G);obtain⟨h3,h4⟩:=mxu_sum c.name (cst c.name c.data) G;simp only [Bool.false_eq_true,if_false];omega
theorem bsL_sum : ∀ (l:List Ch),(∀ c∈l,c.name.size<=24/\c.data.length<=200000)->(bsL l).length<=cchs l
 | [],_=>by simp [bsL,cchs]
 | c::r,h=>by
  have h1:=bsL_sum r fun x hx=>h x (by simp [hx]);obtain⟨h2,h3⟩:=h c (by simp);have e:bsL (c::r)=chB c++bsL r:=rfl;have e2:cchs (c::r)=(c.name.size+c.data.length+20)+cchs r:=rfl;have a1:=SfC.tx_len (s:=c.name) (by omega);have a2:=SfC.tx_len (s:=baL c.data) (by rw [ba_size]; omega);rw [ba_size] at a2;have b1:(nums [(1:Int)]).length<=6*[(1:Int)].length:=nums_len _;have b2:(nums [(0:Int)]).length<=6*[(0:Int)].length:=nums_len _;rw [List.length_singleton] at b1 b2;rw [e,e2,List.length_append];unfold chB;split
  · simp only [List.length_append]; omega
  · simp only [List.length_append]; omega
theorem fit_ok {D:List F} {s:St} {l:List Ch} (h:Cl D 1000000 s) (hm:mayL l=true) (hD:costs D<=390000) (hDl:D.length<=6) (hl:l.length<=3) (hc:cchs l<=195000):fitE s l=0:=by
 have hb:(bsL l).length<=cchs l:=bsL_sum l fun c hcl=>by
  have h1:=hm;unfold mayL at h1;rw [Bool.and_eq_true] at h1;have h2:=List.all_eq_true.1 h1.1 c hcl;unfold chBad at h2;simp at h2;omega
 obtain⟨h1,h2⟩:=gr1_sum s.files [];obtain⟨h3,h4⟩:=mxu_sum nR (cst nR (bsL l)) (gr1 s.files []);obtain⟨h5,h6⟩:=gr2_sum l (mxu nR (cst nR (bsL l)) (gr1 s.files []));have e:grt s (bsL l) l=gr2 l (mxu nR (cst nR (bsL l)) (gr1 s.files [])):=rfl;have hn:cst nR (bsL l)=5+(bsL l).length+8:=rfl;rw [h.files] at *;have z1:sum2 ([]:List (ByteArray × Nat))=0:=rfl;have z2:([]:List (ByteArray × Nat)).length=0:=rfl;unfold fitE;rw [h.down,hm,h.room,if_neg (by decide),if_neg (by decide),if_neg (by omega),e,if_neg (by omega)]
structure Kept (D:List F) (id:ByteArray) (k:Nat) (b0:Box) (l:List RwD.Row) (b:Box):Prop where
 k3:k=1\/k=2\/k=3
 may:mbE b0=0
 id0:b0.id=id
 img:lkF D (fI id)=some (rawI k b0)
 row:lkF D (fR id)=some (bytesR l)
 gr : ∀ r∈l,Gr r
 len:l.length<=200
 all:allG (pj (fmI k) b0) l=(b,0)
theorem flat_le {α:Type} {f:α->List UInt8} {K:Nat} : ∀ {l:List α},(∀ x∈l,(f x).length<=K)->(l.flatMap f).length<=K*l.length
 | [],_=>by simp
 | x::l,h=>by
  have h1:=h x (by simp);have h2:=flat_le (l:=l) fun y hy=>h y (by simp [hy]);rw [List.flatMap_cons,List.length_append,List.length_cons,Nat.mul_add];omega
theorem eb_40 {c:Bool} {b:Box} (h:mbE b=0):(OlD.eb c b).length<=40000:=by
 have g:=OlP.good_of h;have h1:((b.words.take 32).flatMap PkB.tx).length<=306*(b.words.take 32).length:=flat_le fun s hs=>PkK.tx_len (by have:=(atB_size (OlP.wordsB_at g.ws s (List.mem_of_mem_take hs))).2; omega);have h2:(b.msgs.flatMap (OlD.em c)).length<=321*b.msgs.length:=flat_le fun m hm=>by
  obtain⟨_,_,_,_,_,_,h7⟩:=OlP.mm_parts (g.ms m hm).1;rw [OlC.em_len]; have:=OlC.ch_le c m.mod; omega
 have h3:=g.ml;have h4:(b.words.take 32).length<=32:=by rw [List.length_take]; omega
 unfold OlD.eb OlD.ebR;simp only [List.length_append,OlD.fx_len];have e:(OlD.mk c).length=3:=rfl;have e7:=OlC.ch_le c b.high;omega
theorem raw_51 {k:Nat} {b:Box} (h:mbE b=0):(rawI k b).length<=51000:=by
 unfold rawI;split
 · have:=eb_40 (c:=false) h; omega
 · split
   · have:=eb_40 (c:=true) h; omega
   · have g:=PtD.good_of h
     have h1:=F3C.hd3_len h;have h2:=F3C.ms3_len (n:=b.words.length) g.wl b.msgs 0 (fun m hm=>(g.ms m hm).1);have h3:=g.ml;have e:F3D.mk3.length=3:=rfl;unfold F3D.e3 F3D.e3R;simp only [List.length_append];omega
end Go.Proofs.YtoljpfapphoflaaGreatDoor.HoF

set_option maxRecDepth 512
namespace Go.Proofs.YtoljpfapphoflaaGreatDoor.HoK
open Go.RowKit BxD RkO RkC RkD SfB SfD SfT SfU SfV HoF
open SfO SfP
open RwD (allG mb_iff head_parts allG_append)
open RpD (bytesR parseR)
open ImD (re pj whole_re re_len)
open ImL (rawI fmI fmI_is)
open HoD (Gr gr_len re_gr moE mo_gr)
section
variable {D : List F} {id c : ByteArray} {x y : List UInt8}
theorem lk_put (hs:SrtF D) (n:ByteArray):lkF (dall D (chPut id x y)) n=if n=fS id then none else if n=fR id then some y else if n=fI id then some x else lkF D n:=by
 show lkF (doneC (doneC (doneC D ⟨fI id,false,x⟩) ⟨fR id,false,y⟩) ⟨fS id,true,[]⟩) n=_;rw [look_done (srt_done (srt_done hs _) _),look_done (srt_done hs _),look_done hs];rfl
theorem lk_gone (hs:SrtF D) (n:ByteArray):lkF (dall D (chGone id)) n=if n=fS id then none else if n=fR id then none else if n=fI id then none else lkF D n:=by
 show lkF (doneC (doneC (doneC D ⟨fI id,true,[]⟩) ⟨fR id,true,[]⟩) ⟨fS id,true,[]⟩) n=_;rw [look_done (srt_done (srt_done hs _) _),look_done (srt_done hs _),look_done hs];rfl
theorem ir (a b:ByteArray):fI a≠fR b:=ne_name (by decide) a b
theorem is (a b:ByteArray):fI a≠fS b:=ne_name (by decide) a b
theorem rs (a b:ByteArray):fR a≠fS b:=ne_name (by decide) a b
theorem ii {a b:ByteArray} (h:a≠b):fI a≠fI b:=fun e=>h (one_inj e).2
theorem rr {a b:ByteArray} (h:a≠b):fR a≠fR b:=fun e=>h (one_inj e).2
theorem ri (a b:ByteArray):fR a≠fI b:=fun e=>ir b a e.symm
theorem kept_put {k:Nat} {b:Box} (hs:SrtF D) (hk:k=1\/k=2\/k=3) (h0:mbE b=0):Kept (dall D (chPut b.id (rawI k b) (bytesR (re (fmI k) b)))) b.id k b (re (fmI k) b) b :=
 ⟨hk,h0,rfl,by rw [lk_put hs,if_neg (is _ _),if_neg (ir _ _),if_pos rfl],by rw [lk_put hs,if_neg (rs _ _),if_pos rfl],re_gr h0,by have:=re_len (fmI_is k) h0; omega,whole_re (fmI_is k) h0⟩
theorem kept_gone {k:Nat} {b0 b:Box} {l:List RwD.Row} (hs:SrtF D) (h:Kept D c k b0 l b) (hc:c≠id):Kept (dall D (chGone id)) c k b0 l b :=
 ⟨h.k3,h.may,h.id0,by rw [lk_gone hs,if_neg (is _ _),if_neg (ir _ _),if_neg (ii hc)]; exact h.img,by rw [lk_gone hs,if_neg (rs _ _),if_neg (rr hc),if_neg (ri _ _)]; exact h.row,h.gr,h.len,h.all⟩
theorem none_gone (hs:SrtF D):lkF (dall D (chGone id)) (fI id)=none:=by rw [lk_gone hs,if_neg (is _ _),if_neg (ir _ _),if_pos rfl]
end
def Few (D:List F) (ids:List ByteArray):Prop:=∀ n d,lkF D n=some d->∃ a∈ids,a.size<=12/\((n=fI a/\d.length<=51000)\/(n=fR a/\d.length<=87200))
theorem few_nil (ids:List ByteArray):Few [] ids:=fun n d h=>by cases h
section
variable {D : List F} {id : ByteArray} {ids : List ByteArray} {x y : List UInt8}
theorem few_put (hs:SrtF D) (h:Few D ids) (hi:id∈ids) (hz:id.size<=12) (hx:x.length<=51000) (hy:y.length<=87200):Few (dall D (chPut id x y)) ids:=by
 intro n d hn;rw [lk_put hs] at hn;split at hn
 · cases hn
 · split at hn
   · rename_i e
     obtain rfl:=Option.some.inj hn;exact⟨id,hi,hz,.inr ⟨e,hy⟩⟩
   · split at hn
     · rename_i e
       obtain rfl:=Option.some.inj hn;exact⟨id,hi,hz,.inl ⟨e,hx⟩⟩
     · exact h n d hn
end
def gG (ids:List ByteArray):List (ByteArray × Nat):=ids.flatMap fun a=>[(fI a,51021),(fR a,87221)]
theorem gG_mem {ids:List ByteArray} {n:ByteArray} (h:n∈(gG ids).map (·.1)) : ∃ a∈ids,n=fI a\/n=fR a:=by
 obtain⟨p,hp,rfl⟩:=List.mem_map.1 h;obtain⟨a,ha,hx⟩:=List.mem_flatMap.1 hp;refine⟨a,ha, ?_⟩;simp only [List.mem_cons,List.not_mem_nil,or_false] at hx;rcases hx with rfl | rfl
 · exact .inl rfl
 · exact .inr rfl
theorem gG_nd : ∀ {ids:List ByteArray},ids.Nodup->((gG ids).map (·.1)).Nodup
 | [],_=>List.nodup_nil
 | a::r,h=>by
  rw [List.nodup_cons] at h;have e:(gG (a::r)).map (·.1)=fI a::fR a::(gG r).map (·.1):=rfl;rw [e,List.nodup_cons,List.nodup_cons];refine⟨?_, ?_,gG_nd h.2⟩
  · intro hm
    rcases List.mem_cons.1 hm with hm | hm
    · exact ir _ _ hm
    · obtain⟨b,hb,e | e⟩:=gG_mem hm
      · exact h.1 ((one_inj e).2 ▸ hb)
      · exact ir _ _ e
  · intro hm
    obtain⟨b,hb,e | e⟩:=gG_mem hm
    · exact ri _ _ e
    · exact h.1 ((one_inj e).2 ▸ hb)
theorem gG_sum : ∀ ids:List ByteArray,sum2 (gG ids)=138242*ids.length/\(gG ids).length=2*ids.length
 | []=>⟨rfl,rfl⟩
 | a::r=>by
  obtain⟨h1,h2⟩:=gG_sum r;have e:gG (a::r)=(fI a,51021)::(fR a,87221)::gG r:=rfl;have e2:sum2 (gG (a::r))=51021+(87221+sum2 (gG r)):=rfl;rw [e2,e,List.length_cons,List.length_cons,List.length_cons];omega
theorem few_costs {D:List F} {ids:List ByteArray} (hs:SrtF D) (h:Few D ids) (hn:ids.Nodup):costs D<=138242*ids.length/\D.length<=2*ids.length:=by
 obtain⟨h1,h2⟩:=gG_sum ids;rw [<- h1,<- h2];refine cov_sum (srt_nodup hs) (fun f hf=>?_) (gG_nd hn);obtain⟨a,ha,hz,⟨e,hd⟩ | ⟨e,hd⟩⟩:=h f.1 f.2 ((look_iff hs).2 hf)
 · refine⟨(fI a,51021),List.mem_flatMap.2 ⟨a,ha,by simp⟩,e.symm, ?_⟩
   have:=sz1 105 a;have e2:f.1.size=1+a.size:=by rw [e]; exact this
   show cst f.1 f.2<=51021;unfold cst; omega
 · refine⟨(fR a,87221),List.mem_flatMap.2 ⟨a,ha,by simp⟩,e.symm, ?_⟩
   have:=sz1 114 a;have e2:f.1.size=1+a.size:=by rw [e]; exact this
   show cst f.1 f.2<=87221;unfold cst; omega
theorem c3 (a b c:Ch):cchs [a,b,c]=(a.name.size+a.data.length+20)+((b.name.size+b.data.length+20)+((c.name.size+c.data.length+20)+0)):=rfl
theorem c1 (a:Ch):cchs [a]=(a.name.size+a.data.length+20)+0:=rfl
section
variable {D : List F} {s : St} {id : ByteArray} {ids : List ByteArray} {x y : List UInt8}
theorem fit_put (hC:Cl D 1000000 s) (hs:SrtF D) (h:Few D ids) (hn:ids.Nodup) (hl:ids.length<=2) (hz:id.size<=12) (hx:x.length<=51000) (hy:y.length<=87200):fitE s (chPut id x y)=0:=by
 obtain⟨h1,h2⟩:=few_costs hs h hn;refine fit_ok hC (may_put hz (by omega) (by omega)) (by omega) (by omega) lr_ ?_;unfold chPut;rw [c3];have e1:(fI id).size=1+id.size:=sz1 105 id;have e2:(fR id).size=1+id.size:=sz1 114 id;have e3:(fS id).size=1+id.size:=sz1 115 id;simp only [List.length_nil];omega
theorem fit_gone (hC:Cl D 1000000 s) (hs:SrtF D) (h:Few D ids) (hn:ids.Nodup) (hl:ids.length<=2) (hz:id.size<=12):fitE s (chGone id)=0:=by
 obtain⟨h1,h2⟩:=few_costs hs h hn;refine fit_ok hC (may_gone hz) (by omega) (by omega) lr_ ?_;unfold chGone;rw [c3];have e1:(fI id).size=1+id.size:=sz1 105 id;have e2:(fR id).size=1+id.size:=sz1 114 id;have e3:(fS id).size=1+id.size:=sz1 115 id;simp only [List.length_nil];omega
theorem com_fit {l:List Ch} (hC:Cl D 1000000 s) (hK:Fk D) (hz:s.fuse=none) (hf:fitE s l=0):comE s l=0/\Cl (dall D l) 1000000 (comS s l)/\Fk (dall D l)/\(comS s l).fuse=none:=by
 rcases com_any hC hK hf with⟨h1,h2,h3⟩ | ⟨_,h2,_⟩
 · exact⟨h1,h2,SfV.Cx.all (cx_of hC hK hf),h3 hz⟩
 · exact absurd hz h2
end
end Go.Proofs.YtoljpfapphoflaaGreatDoor.HoK
