/-
  ImN + ImP + ImL
-/
import Derived.Test.YtoljpfapphoflaaGreatDoorK5
import Derived.OwnWalk
import Derived.Test.YtoljpfapphoflaaGreatDoorM9
import Derived.Test.YtoljpfapphoflaaGreatDoorJ9
import Derived.Test.YtoljpfapphoflaaGreatDoorK4
import Derived.Test.YtoljpfapphoflaaGreatDoorF3Y
import Derived.Test.YtoljpfapphoflaaGreatDoorL8
import Derived.Test.YtoljpfapphoflaaGreatDoorK8
set_option linter.unusedVariables false
set_option linter.unusedSimpArgs false
set_option maxHeartbeats 8000000
set_option maxRecDepth 100000
namespace Go.Proofs.YtoljpfapphoflaaGreatDoor.ImN
open Go.RowKit BxD BxKit BxR BxC OlD PtK RwD RwKit RwRo ImD ImK ImA ImM
open PkKit (BytesAt)
structure RB (w wr:World) (F M:Array Value) (A:Option Addr) (n c:Nat) (rs:List RRaw):Prop where
 bel:Below w.heap.size w wr
 fb:wr.heap[w.heap.size]? = some (.cells F 126 (0,0))
 mb:wr.heap[w.heap.size+1]? = some (.cells M 25 (0,0))
 rs:RS wr (w.heap.size+2) A n c rs
section
variable {w wr w2 w3 : World} {F M : Array Value} {A A' : Option Addr} {n c c' : Nat} {rs rs' : List RRaw}
theorem RB.size (h:RB w wr F M A n c rs):w.heap.size+2<=wr.heap.size:=(gs_ h.mb).1
theorem RB.go (h:RB w wr F M A n c rs) (hb:Below wr.heap.size wr w2):RB w w2 F M A n c rs:=by
 have hs:=h.size;exact⟨h.bel.trans (hb.mono h.bel.size),(hb.block _ (by omega)).trans h.fb,(hb.block _ (by omega)).trans h.mb,h.rs.go hb⟩
theorem RB.alloc (h:RB w wr F M A n c rs) (o:Obj):RB w (wr.alloc o) F M A n c rs:=h.go ((Below.refl _ _).alloc lr_ o)
theorem RB.app (h:RB w wr F M A n c rs) {m:Nat} (hk : ∀ q∈rs',wr.ownsRow (w.heap.size+2) 3 1 (.slice q.K q.r.msg.keys.length q.c) q.r.msg.keys.length (q.r.msg.keys.map (Value.int .i64)))
 (hz : ∀ q∈rs',q.r.msg.keys.length<=64/\q.r.msg.id.size<=300/\q.r.msg.text.size<=300/\q.r.text.size<=300) (hm:rs'.length=m)
 (ho:w3.ownsRow (w.heap.size+2) 63 11 (.slice A' (n+m) c') (n+m) (rc (rs++rs'))) (hgr:wr.grownBy w3 (Value.slice A n c).ownBlock):RB w w3 F M A' (n+m) c' (rs++rs'):=by
 have hs:=h.size;have hb:=h.rs.bel hgr hs;exact⟨h.bel.trans (hb.mono (by omega)),(hb.block _ (by omega)).trans h.fb,(hb.block _ (by omega)).trans h.mb,h.rs.app hk hz hm ho hgr⟩
theorem RB.app1 (h:RB w wr F M A n c rs) {q:RRaw} (hk:wr.ownsRow (w.heap.size+2) 3 1 (.slice q.K q.r.msg.keys.length q.c) q.r.msg.keys.length (q.r.msg.keys.map (Value.int .i64)))
 (hz:q.r.msg.keys.length<=64/\q.r.msg.id.size<=300/\q.r.msg.text.size<=300/\q.r.text.size<=300)
 (ho:w3.ownsRow (w.heap.size+2) 63 11 (.slice A' (n+1) c') (n+1) (rc (rs++[q]))) (hgr:wr.grownBy w3 (Value.slice A n c).ownBlock):RB w w3 F M A' (n+1) c' (rs++[q]) :=
 h.app (fun r hr=>by obtain rfl:=List.mem_singleton.1 hr; exact hk) (fun r hr=>by obtain rfl:=List.mem_singleton.1 hr; exact hz) rfl ho hgr
theorem RB.box {b:Box} {WA MA:Option Addr} {wn wcp mn mcp:Nat} (h:RB w wr F #[.string b.id,.int .i64 b.valid,.int .i64 b.next,.int .i64 b.high,.slice WA wn wcp,.slice MA mn mcp] A n c rs):wr.cell? ⟨w.heap.size+1,0,none⟩ = some (.string b.id)/\wr.cell? ⟨w.heap.size+1,1,none⟩ = some (.int .i64 b.valid)/\wr.cell? ⟨w.heap.size+1,2,none⟩ = some (.int .i64 b.next)/\wr.cell? ⟨w.heap.size+1,3,none⟩ = some (.int .i64 b.high)/\wr.cell? ⟨w.heap.size+1,4,none⟩ = some (.slice WA wn wcp)/\wr.cell? ⟨w.heap.size+1,5,none⟩ = some (.slice MA mn mcp):=by
 have c:=fun o=>cell_of_row wr (w.heap.size+1) o _ _ _ h.mb;exact⟨(c 0).trans rfl,(c 1).trans rfl,(c 2).trans rfl,(c 3).trans rfl,(c 4).trans rfl,(c 5).trans rfl⟩
theorem RB.frm {mk:ByteArray} {kb kp fw:Nat} {fc fn:Bool} (h:RB w wr #[.string mk,.func (.func kb) #[] #[],.func (.func kp) #[] #[],.int .i64 (fw:Nat),.bool fc,.bool fn] M A n c rs):wr.cell? ⟨w.heap.size,0,none⟩ = some (.string mk)/\wr.cell? ⟨w.heap.size,1,none⟩ = some (.func (.func kb) #[] #[])/\wr.cell? ⟨w.heap.size,2,none⟩ = some (.func (.func kp) #[] #[])/\wr.cell? ⟨w.heap.size,3,none⟩ = some (.int .i64 (fw:Nat))/\wr.cell? ⟨w.heap.size,4,none⟩ = some (.bool fc)/\wr.cell? ⟨w.heap.size,5,none⟩ = some (.bool fn):=by
 have c:=fun o=>cell_of_row wr w.heap.size o _ _ _ h.fb;exact⟨(c 0).trans rfl,(c 1).trans rfl,(c 2).trans rfl,(c 3).trans rfl,(c 4).trans rfl,(c 5).trans rfl⟩
theorem RB.start (w:World) (F M:Array Value):RB w ((w.alloc (.cells F 126)).alloc (.cells M 25)) F M none 0 0 []:=by
 refine⟨((Below.refl _ _).alloc lr_ _).alloc (by simp) _,(heap_alloc_old _ _ (by simp)).trans (heap_alloc_new w _), ?_,RS.nil _ _⟩;have:=heap_alloc_new (w.alloc (.cells F 126)) (.cells M 25)
 rwa [show (w.alloc (.cells F 126)).heap.size=w.heap.size+1 by simp] at this
end
theorem rest_any {w:World} {B wn wcp mn mcp kb kp:Nat} {WA MA:Option Addr} {mk:ByteArray} {f:Fm} {b:Box} (ht:BxO.Tab w) (hx:StrsAt w B WA wn b.words) (hm:MsgsAt w B MA mn b.msgs) (hB:B<=w.heap.size) (hwc:wn<=wcp) (hf:Is f) (h0:mbE b=0) :
 Calls Tryz.prog 94 #[.agg #[.string mk,.func (.func kb) #[] #[],.func (.func kp) #[] #[],.int .i64 (f.w:Nat),.bool f.c,.bool f.n],.agg #[.string b.id,.int .i64 b.valid,.int .i64 b.next,.int .i64 b.high,.slice WA wn wcp,.slice MA mn mcp]] w (RestOut (re f b) w):=by
 have hfw:f.w=32\/f.w=64:=by rcases hf with rfl | rfl | rfl <;> simp [fm1,fm2,fm3]
 have HG:=H_ (OlP.good_of h0);have HLN:=H_ (re_len hf h0);obtain⟨fw,fc,fn⟩:=f;have hwl:=HG.out.wl;have hml:=HG.out.ml;have hwn:b.words.length=wn:=hx.len;have hmn:b.msgs.length=mn:=hm.len;have R0:=H_ (RB.start w #[.string mk,.func (.func kb) #[] #[],.func (.func kp) #[] #[],.int .i64 (fw:Nat),.bool fc,.bool fn] #[.string b.id,.int .i64 b.valid,.int .i64 b.next,.int .i64 b.high,.slice WA wn wcp,.slice MA mn mcp]);have hbl:=R0.out.bel;have HX:=H_ hx;have HM:=H_ hm;have HT:=H_ ht;simp only at hfw;clear hx hm hbl ht h0 hf;show Calls Tryz.prog _ #[.agg #[.string mk,.func (.func kb) #[] #[],.func (.func kp) #[] #[],.int .i64 ((fw:Nat):Int),.bool fc,.bool fn],_] w _;go_enter Tryz.func94,Tryz.ntmps94;go_upto_region 1 with fail
 generalize (World.alloc (World.alloc w _) _)=w1 at R0 ⊢;have hs1:=R0.out.size;obtain⟨nb,hnb⟩ : ∃ nb,nb=(!fc&&decide (b.high≠1)):=⟨_,rfl⟩;have HNB:=H_ hnb;clear hnb;go_upto_region 2 with fail
 go_cut [17] (fun s17 wx=>s17 = .bool nb/\wx=w1)
 case first =>
  obtain⟨m0,m1,m2,m3,m4,m5⟩:=R0.out.box;obtain⟨f0,f1,f2,f3,f4,f5⟩:=R0.out.frm;cases fc with
  | true =>
   have hv:nb=false:=by rw [HNB.out]; rfl
   subst hv;go_wp2_with fail
   go_meet;exact⟨rfl,rfl⟩
  | false =>
   by_cases hq:b.high=1
   · have hv:nb=false:=by rw [HNB.out,hq]; rfl
     subst hv;have hq2:(b.high != 1)=false:=by simpa using hq
     go_wp2_with fail
     go_meet;exact⟨rfl,rfl⟩
   · have hv:nb=true:=by rw [HNB.out]; simp [hq]
     subst hv;have hq2:(b.high != 1)=true:=by simpa using hq
     go_wp2_with fail
     go_meet;exact⟨rfl,rfl⟩
 case rest =>
  obtain⟨rfl,rfl⟩:=hcut
  go_upto_if 17 with fail
  go_cut [5] (fun s5 wx=>∃ (A:Option Addr) (n c:Nat) (rs:List RRaw),s5 = .slice A n c/\n<=1/\Hid (RB w wx #[.string mk,.func (.func kb) #[] #[],.func (.func kp) #[] #[],.int .i64 (fw:Nat),.bool fc,.bool fn] #[.string b.id,.int .i64 b.valid,.int .i64 b.next,.int .i64 b.high,.slice WA wn wcp,.slice MA mn mcp] A n c rs)/\Hid (rs.map RRaw.r=reH ⟨fw,fc,fn⟩ b))
  case first =>
   obtain⟨m0,m1,m2,m3,m4,m5⟩:=R0.out.box;cases nb with
   | false =>
    have HE:=H_ (show ([]:List RRaw).map RRaw.r=reH ⟨fw,fc,fn⟩ b by
     have h0 : ¬ (fc=false/\b.high≠1):=fun h=>by
      have h1:=HNB.out;rw [h.1] at h1;simp [h.2] at h1
     unfold reH;rw [if_neg h0];rfl)
    go_wp2_with fail
    go_meet;exact⟨none,0,0,[],rfl,Nat.zero_le _,R0,HE⟩
   | true =>
    have HE:=H_ (show [r7 b.high]=reH ⟨fw,fc,fn⟩ b by
     have h0:fc=false/\b.high≠1:=by
      have h1:=HNB.out;cases fc with
      | true=>simp at h1
      | false=>exact⟨rfl,by simpa using h1.symm⟩
     unfold reH;rw [if_pos h0])
    clear m0 m1 m2 m4 m5;have O2:=H_ (R0.out.rs.om.alloc (.cells #[.int .i64 7,.int .i64 0,.int .i64 b.high,.int .i64 0,.int .i64 0,.int .i64 0,.string ⟨#[]⟩,.int .i64 0,.slice none 0 0,.string ⟨#[]⟩,.string ⟨#[]⟩] 63));have S2:=H_ (src_new wc #[.int .i64 7,.int .i64 0,.int .i64 b.high,.int .i64 0,.int .i64 0,.int .i64 0,.string ⟨#[]⟩,.int .i64 0,.slice none 0 0,.string ⟨#[]⟩,.string ⟨#[]⟩] 63 (b:=wc.heap.size) (m:=1) (sz:=11) rfl rfl (ImM.ones11 _ _ _ _ _ _ _ _ _ _ _ _ _));have Z2:=H_ (show w.heap.size+2<=(wc.alloc (.cells #[.int .i64 7,.int .i64 0,.int .i64 b.high,.int .i64 0,.int .i64 0,.int .i64 0,.string ⟨#[]⟩,.int .i64 0,.slice none 0 0,.string ⟨#[]⟩,.string ⟨#[]⟩] 63)).heap.size by simp; omega);go_wp2_with (at_builtin; go_loud (
     refine wpList_rows elR rfl _ _ rfl rfl rfl O2.out S2.out (by unfold maxLen; omega) (by omega) Z2.out ?_;intro v3 w3 hown3 hg3 _;obtain⟨A3,k3,rfl,hk3⟩:=own_slice hown3;have R3:=H_ ((R0.out.alloc (.cells #[.int .i64 7,.int .i64 0,.int .i64 b.high,.int .i64 0,.int .i64 0,.int .i64 0,.string ⟨#[]⟩,.int .i64 0,.slice none 0 0,.string ⟨#[]⟩,.string ⟨#[]⟩] 63)).app1 (q:=⟨r7 b.high,none,0⟩) (World.ownsRow_nil _ _ _ _) ⟨Nat.zero_le _,Nat.zero_le _,Nat.zero_le _,by first | exact htx | exact Nat.zero_le _⟩ (by
      have e:rc (([]:List RRaw)++[(⟨r7 b.high,none,0⟩:RRaw)])=rc ([]:List RRaw) ++ #[.int .i64 7,.int .i64 0,.int .i64 b.high,.int .i64 0,.int .i64 0,.int .i64 0,.string ⟨#[]⟩,.int .i64 0,.slice none 0 0,.string ⟨#[]⟩,.string ⟨#[]⟩].toList:=by
       rw [rc_append];rfl
      rw [e];exact hown3) hg3)
     clear hown3 hg3 m3))
    go_meet;exact⟨A3,1,k3,[⟨r7 b.high,none,0⟩],rfl,Nat.le_refl _,by have:=R3; simpa [Hid] using this,HE⟩
  case rest =>
   clear R0 hs1 HNB;obtain⟨A,n,c,rs,rfl,hn,R0,HA⟩:=hcut;have hs1:=R0.out.size;obtain⟨m0,m1,m2,m3,m4,m5⟩:=R0.out.box;obtain⟨f0,f1,f2,f3,f4,f5⟩:=R0.out.frm;obtain⟨k0,hk0⟩ : ∃ k0,k0=min fw wn:=⟨_,rfl⟩;have hmin:(if (wn:Int)<(fw:Int) then (wn:Int) else (fw:Int))=(k0:Int):=by split <;> omega
   have hmin2:min (fw:Int) (wn:Int)=(k0:Int):=by omega
   have hkw:k0<=wn:=by omega
   have hkc:k0<=wcp:=by omega
   have HDR:=H_ (show (b.words.drop k0).map r4=reW ⟨fw,fc,fn⟩ b by
    unfold reW;show _=(b.words.drop fw).map r4;by_cases h:fw<=wn
    · rw [hk0,Nat.min_eq_left h]
    · rw [hk0,Nat.min_eq_right (by omega),List.drop_of_length_le (by omega),List.drop_of_length_le (by omega)])
   have hcut0:=RowAt.cut (k:=k0) (cp:=wcp) HX.out hkw hwc;obtain⟨l,hl⟩ : ∃ l,l=wn-k0:=⟨_,rfl⟩;have hl32:l<=64:=by omega
   have hli:IntKind.i64.wrap ((wn:Int)-(k0:Int))=(l:Int):=by rw [IntKind.wrap_i64]; omega
   rw [<- hl,Nat.mul_one] at hcut0;have HCUT:=H_ hcut0;have HL:=H_ hl;clear hcut0 hk0 hl;go_upto_region 4 with fail
   go_cut [32,33,34] (fun s32 s33 s34 wx=>∃ (A5:Option Addr) (c5:Nat),s32 = .slice A5 l c5/\s33 = .int .i64 l/\s34 = .int .i64 0/\Hid (StrsAt w B A5 l (b.words.drop k0))/\Hid (RB w wx #[.string mk,.func (.func kb) #[] #[],.func (.func kp) #[] #[],.int .i64 (fw:Nat),.bool fc,.bool fn] #[.string b.id,.int .i64 b.valid,.int .i64 b.next,.int .i64 b.high,.slice WA wn wcp,.slice MA mn mcp] A n c rs))
   case first =>
    by_cases hck:wcp=k0
    · have hX2:=HCUT.out
      rw [if_pos hck] at hX2;have HX2:=H_ hX2;clear hX2;go_wp2_with fail
      go_meet;exact⟨_,_,by first | rfl | (rw [HL.out]),by first | rfl | (rw [HL.out]),rfl,HX2,R0⟩
    · have hX2:=HCUT.out
      rw [if_neg hck] at hX2;have HX2:=H_ hX2;clear hX2;go_wp2_with fail
      go_meet;exact⟨_,_,by first | rfl | (rw [HL.out]),by first | rfl | (rw [HL.out]),rfl,HX2,R0⟩
   case rest =>
    clear R0 hs1 m0 m1 m2 m3 m4 m5 f0 f1 f2 f3 f4 f5 HCUT hmin hmin2 hkw hkc hli;obtain⟨A5,c5,rfl,rfl,rfl,HX2,R0⟩:=hcut;go_wp2_with fail
    go_loopw [5,34] (fun s5 s34 wr=>∃ (A:Option Addr) (n c:Nat) (rs:List RRaw) (j:Nat),s5 = .slice A n c/\j<=l/\s34 = .int .i64 j/\n<=1+j/\Hid (RB w wr #[.string mk,.func (.func kb) #[] #[],.func (.func kp) #[] #[],.int .i64 (fw:Nat),.bool fc,.bool fn] #[.string b.id,.int .i64 b.valid,.int .i64 b.next,.int .i64 b.high,.slice WA wn wcp,.slice MA mn mcp] A n c rs)/\Hid (rs.map RRaw.r=reH ⟨fw,fc,fn⟩ b++((b.words.drop k0).take j).map r4)) (fun _ s34 _=>l-(intOf s34).toNat)
    case atStart=>exact⟨A,n,c,rs,0,rfl,Nat.zero_le _,rfl,by omega,R0,by show _=_++(List.take 0 _).map r4; rw [List.take_zero,List.map_nil,List.append_nil]; exact HA.out⟩
    case round =>
     clear R0 HA;obtain⟨A,n,c,rs,j,rfl,hj,rfl,hn,R0,HA⟩:=hrel;have hs1:=R0.out.size;by_cases hlt:j<l
     · obtain⟨ad,s,rfl,e1,q1⟩:=BxKit.StrsAt.at_ HX2.out R0.out.bel hB hlt
       have htx:s.size<=300:=by
        have:=(atB_size (OlP.wordsB_at HG.out.ws s (List.mem_of_mem_drop (List.mem_of_getElem? e1)))).2;omega
       have HS:=H_ (show ((b.words.drop k0).take (j+1)).map r4=((b.words.drop k0).take j).map r4++[r4 s] by
        obtain⟨hl2,rfl⟩:=List.getElem?_eq_some_iff.1 e1;rw [List.take_succ_eq_append_getElem hl2,List.map_append];rfl)
       clear e1;have O2:=H_ (R0.out.rs.om.alloc (.cells #[.int .i64 4,.int .i64 0,.int .i64 0,.int .i64 0,.int .i64 0,.int .i64 0,.string ⟨#[]⟩,.int .i64 0,.slice none 0 0,.string ⟨#[]⟩,.string s] 63));have S2:=H_ (src_new wr #[.int .i64 4,.int .i64 0,.int .i64 0,.int .i64 0,.int .i64 0,.int .i64 0,.string ⟨#[]⟩,.int .i64 0,.slice none 0 0,.string ⟨#[]⟩,.string s] 63 (b:=wr.heap.size) (m:=1) (sz:=11) rfl rfl (ImM.ones11 _ _ _ _ _ _ _ _ _ _ _ _ _));have Z2:=H_ (show w.heap.size+2<=(wr.alloc (.cells #[.int .i64 4,.int .i64 0,.int .i64 0,.int .i64 0,.int .i64 0,.int .i64 0,.string ⟨#[]⟩,.int .i64 0,.slice none 0 0,.string ⟨#[]⟩,.string s] 63)).heap.size by simp; omega);go_wp2_with (at_builtin; go_loud (
        refine wpList_rows elR rfl _ _ rfl rfl rfl O2.out S2.out (by unfold maxLen; omega) (by omega) Z2.out ?_;intro v3 w3 hown3 hg3 _;obtain⟨A3,k3,rfl,hk3⟩:=own_slice hown3;have R3:=H_ ((R0.out.alloc (.cells #[.int .i64 4,.int .i64 0,.int .i64 0,.int .i64 0,.int .i64 0,.int .i64 0,.string ⟨#[]⟩,.int .i64 0,.slice none 0 0,.string ⟨#[]⟩,.string s] 63)).app1 (q:=⟨r4 s,none,0⟩) (World.ownsRow_nil _ _ _ _) ⟨Nat.zero_le _,Nat.zero_le _,Nat.zero_le _,by first | exact htx | exact Nat.zero_le _⟩ (by
         have e:rc (rs++[(⟨r4 s,none,0⟩:RRaw)])=rc rs ++ #[.int .i64 4,.int .i64 0,.int .i64 0,.int .i64 0,.int .i64 0,.int .i64 0,.string ⟨#[]⟩,.int .i64 0,.slice none 0 0,.string ⟨#[]⟩,.string s].toList:=by
          rw [rc_append];rfl
         rw [e];exact hown3) hg3)
        clear hown3 hg3 q1))
       go_roundw
       case rel=>exact⟨A3,n+1,k3,rs++[⟨r4 s,none,0⟩],j+1,rfl,by omega,by go_num,by omega,R3,by show (rs++[(⟨r4 s,none,0⟩:RRaw)]).map RRaw.r=_; rw [List.map_append,HA.out,HS.out,List.append_assoc]; rfl⟩
       case measure=>simp [intOf]; omega
     · obtain rfl:l=j:=by omega
       have HA1:=H_ (show rs.map RRaw.r=reH ⟨fw,fc,fn⟩ b++reW ⟨fw,fc,fn⟩ b by
        have h:=HA.out;rw [List.take_of_length_le (by rw [HX2.out.len]; exact Nat.le_refl _),HDR.out] at h;exact h)
       obtain⟨m0,m1,m2,m3,m4,m5⟩:=R0.out.box;clear HA HX2;go_wp2_with fail
       go_loopw [5,47] (fun s5 s47 wr=>∃ (A:Option Addr) (n c:Nat) (rs:List RRaw) (j:Nat),s5 = .slice A n c/\j<=mn/\s47 = .int .i64 j/\n<=100+2*j/\Hid (RB w wr #[.string mk,.func (.func kb) #[] #[],.func (.func kp) #[] #[],.int .i64 (fw:Nat),.bool fc,.bool fn] #[.string b.id,.int .i64 b.valid,.int .i64 b.next,.int .i64 b.high,.slice WA wn wcp,.slice MA mn mcp] A n c rs)/\Hid (rs.map RRaw.r=(reH ⟨fw,fc,fn⟩ b++reW ⟨fw,fc,fn⟩ b)++(b.msgs.take j).flatMap (reM ⟨fw,fc,fn⟩ b.id))) (fun _ s47 _=>mn-(intOf s47).toNat)
       case atStart=>exact⟨A,n,c,rs,0,rfl,Nat.zero_le _,rfl,by omega,R0,by show _=_++(List.take 0 _).flatMap _; rw [List.take_zero,List.flatMap_nil,List.append_nil]; exact HA1.out⟩
       case round =>
        clear R0 HA1 m0 m1 m2 m3 m4 m5 hs1;obtain⟨A,n,c,rs,j,rfl,hj,rfl,hn,R0,HA⟩:=hrel;have hs1:=R0.out.size;by_cases hlt2:j<mn
        · obtain⟨ad,u,md,d,id,fl,ks,tx',K,kn,kc,rfl,hab,e1,c0,c1,c2,c3,c4,c5',c6,hkc,hks,z1,z2⟩:=BxKit.MsgsAt.sp HM.out R0.out.bel hB hlt2
          obtain⟨p1,p2,p3,p4,p5,p6,p7⟩:=OlP.mm_parts (HG.out.ms _ (List.mem_of_getElem? e1)).1;dsimp only at p1 p4 p5 p6 p7;have hk64:kn<=64:=by have h1:=F3D.keys_len p6; have h2:=hks.len; omega
          have hidz:=(atB_size p4).2;have hbid:=HG.out.ids;have HS:=H_ (show (b.msgs.take (j+1)).flatMap (reM ⟨fw,fc,fn⟩ b.id)=(b.msgs.take j).flatMap (reM ⟨fw,fc,fn⟩ b.id)++reM ⟨fw,fc,fn⟩ b.id ⟨u,md,d,id,fl,ks,tx'⟩ by
           obtain⟨hl2,e⟩:=List.getElem?_eq_some_iff.1 e1;rw [List.take_succ_eq_append_getElem hl2,List.flatMap_append,e];simp)
          have HML:=H_ (reM_len ⟨fw,fc,fn⟩ b.id ⟨u,md,d,id,fl,ks,tx'⟩);have R1:=H_ (R0.out.alloc (.cells #[.int .i64 u,.int .i64 md,.int .i64 d,.string id,.int .i64 fl,.slice K kn kc,.string tx'] 61));have HKS:=H_ (IntsAt.below hks ((Below.refl wr.heap.size wr).alloc lr_ (.cells #[.int .i64 u,.int .i64 md,.int .i64 d,.string id,.int .i64 fl,.slice K kn kc,.string tx'] 61)) (show B<=wr.heap.size by omega));have HN:=H_ (heap_alloc_new wr (.cells #[.int .i64 u,.int .i64 md,.int .i64 d,.string id,.int .i64 fl,.slice K kn kc,.string tx'] 61));have hur : -1000000000<=u/\u<=1000000000:=by omega
          clear e1 hks p1 p2 p3 p4 p5 p6 p7;go_upto_region 12 with fail
          clear c0 c1 c2 c3 c4 c5' c6;obtain⟨L,hL⟩ : ∃ L,L=wr.heap.size:=⟨_,rfl⟩;rw [<- hL] at HN ⊢;have hsw:(wr.alloc (.cells #[.int .i64 u,.int .i64 md,.int .i64 d,.string id,.int .i64 fl,.slice K kn kc,.string tx'] 61)).heap.size=L+1:=by simp [hL]
          have hBL:B<=L+1:=by omega
          have hL2:w.heap.size+2<=L:=by omega
          clear hL;generalize (World.alloc wr _)=w2 at R1 HKS HN hsw ⊢;have cX:=fun o=>cell_of_row w2 L o _ _ _ HN.out;have d0:=(cX 0).trans (show _=some (Value.int .i64 u) from rfl);have d1:=(cX 1).trans (show _=some (Value.int .i64 md) from rfl);have d2:=(cX 2).trans (show _=some (Value.int .i64 d) from rfl);have d3:=(cX 3).trans (show _=some (Value.string id) from rfl);have d4:=(cX 4).trans (show _=some (Value.int .i64 fl) from rfl);have d5:=(cX 5).trans (show _=some (Value.slice K kn kc) from rfl);have d6:=(cX 6).trans (show _=some (Value.string tx') from rfl);clear cX;obtain⟨f0,f1,f2,f3,f4,f5⟩:=R1.out.frm;have m0:=R1.out.box.1;have KM:=H_ (restOfMsg_any (kb:=kb) (kp:=kp) (kc:=kc) (mk:=mk) (bid:=b.id) (f:=⟨fw,fc,fn⟩) (u:=u) (md:=md) (d:=d) (fl:=fl) (id:=id) (tx:=tx') (HT.out.below R1.out.bel lr_) HKS.out (by omega) hk64 (by omega) (by omega) hur);go_wp2_with (first
           | (go_at_call 133; go_loud (
              refine KM.out.mono ?_;rintro e w3 ⟨A3,n3,k3,rs3,rfl,hr3,hs3,hb3⟩;have R2:=H_ (R1.out.go hb3);have hs3b:=hs3.base (show w.heap.size+2<=w2.heap.size by omega);have S3:=H_ hs3b;have HR3:=H_ hr3;have hn3:n3<=2:=by rw [<- hs3.ln,<- List.length_map (f:=RRaw.r),hr3]; exact HML.out
              have hz3:=hb3.size;clear hr3 hs3 hb3 hs3b d0 d1 d2 d3 d4 d5 d6 f0 f1 f2 f3 f4 f5 m0))
           | (at_builtin; go_loud (
              refine wpList_rows elR rfl _ _ rfl rfl rfl R2.out.rs.om S3.out.src (by unfold maxLen; omega) (by omega) (by omega) ?_;intro v4 w4 hown4 hg4 _;obtain⟨A4,k4,rfl,hk4⟩:=own_slice hown4;have R4:=H_ (R2.out.app S3.out.ko S3.out.sm S3.out.ln (by rw [rc_append]; exact hown4) hg4);clear hown4 hg4)))
          go_roundw
          case rel=>exact⟨A4,n+n3,k4,rs++rs3,j+1,rfl,by omega,by go_num,by omega,R4,by show (rs++rs3).map RRaw.r=_; rw [List.map_append,HA.out,HS.out,HR3.out]; simp only [List.append_assoc]⟩
          case measure=>simp [intOf]; omega
        · obtain rfl:mn=j:=by omega
          have HE:=H_ (show rs.map RRaw.r=re ⟨fw,fc,fn⟩ b by
           have h:=HA.out;rw [List.take_of_length_le (by rw [HM.out.len]; exact Nat.le_refl _)] at h;rw [h];unfold re;rw [List.append_assoc])
          go_wp2_with fail
          go_ret;exact⟨A,n,c,rs,rfl,HE.out,R0.out.rs.base (by omega),R0.out.bel⟩
def MakeOut (l:List UInt8) (rows:List Row) (w:World) (e:Ending) (w':World):Prop :=
 ∃ A n c A2 n2 c2,e = .returned (.tuple #[.slice A n c,.slice A2 n2 c2,.int .i64 0])/\n<=c/\n2<=c2/\n2<=153/\BytesAt w' w'.heap.size A n l/\RowsAt w' w'.heap.size A2 n2 rows/\Below w.heap.size w w'/\(∀ ad:Addr,A=some ad->w.heap.size<=ad.block)
theorem make_1 {w:World} {B wn wcp mn mcp:Nat} {WA MA:Option Addr} {b:Box} (ht:BxO.Tab w) (hx:StrsAt w B WA wn b.words) (hm:MsgsAt w B MA mn b.msgs) (hB:B<=w.heap.size) (hwc:wn<=wcp) (hmc:mn<=mcp) (h0:mbE b=0) :
 Calls Tryz.prog 47 #[.int .i64 1,.agg #[.string b.id,.int .i64 b.valid,.int .i64 b.next,.int .i64 b.high,.slice WA wn wcp,.slice MA mn mcp]] w (MakeOut (eb false b) (re fm1 b) w):=by
 have hb0:=(Below.refl w.heap.size w).alloc lr_ (.cells #[.string b.id,.int .i64 b.valid,.int .i64 b.next,.int .i64 b.high,.slice WA wn wcp,.slice MA mn mcp] 25);have HB0:=H_ hb0;have HR0:=H_ (heap_alloc_new w (.cells #[.string b.id,.int .i64 b.valid,.int .i64 b.next,.int .i64 b.high,.slice WA wn wcp,.slice MA mn mcp] 25));have hs0:(w.alloc (.cells #[.string b.id,.int .i64 b.valid,.int .i64 b.next,.int .i64 b.high,.slice WA wn wcp,.slice MA mn mcp] 25)).heap.size=w.heap.size+1:=by simp
 have HT:=H_ ht;have HX:=H_ hx;have HM:=H_ hm;have H0:=H_ h0;have HLN:=H_ (re_len (f:=fm1) (.inl rfl) h0);clear hb0 ht hx hm h0;go_enter Tryz.func47,Tryz.ntmps47;go_upto_region 1 with fail
 generalize (World.alloc w _)=w1 at HB0 HR0 hs0 ⊢;have KF:=H_ (formOf_1 w1);go_upto_region 2 with (go_at_call 86; go_loud (
  refine KF.out.mono ?_;rintro e w2 ⟨rfl,hb2⟩;have hs2:=hb2.size;have HB2:=H_ ((HB0.out.trans (hb2.mono (by omega))).alloc (by omega) (.cells #[.string ⟨#[77,66,49]⟩,.func (.func 126) #[] #[],.func (.func 127) #[] #[],.int .i64 32,.bool false,.bool false] 126));have HR2:=H_ ((heap_alloc_old w2 (.cells #[.string ⟨#[77,66,49]⟩,.func (.func 126) #[] #[],.func (.func 127) #[] #[],.int .i64 32,.bool false,.bool false] 126) (show w.heap.size<w2.heap.size by omega)).trans ((hb2.block w.heap.size (by omega)).trans HR0.out));have HF2:=H_ (heap_alloc_new w2 (.cells #[.string ⟨#[77,66,49]⟩,.func (.func 126) #[] #[],.func (.func 127) #[] #[],.int .i64 32,.bool false,.bool false] 126));clear hb2))
 clear HB0 HR0 KF;obtain⟨F,hF⟩ : ∃ F,F=w2.heap.size:=⟨_,rfl⟩;rw [<- hF] at HF2 ⊢;have hsF:(w2.alloc (.cells #[.string ⟨#[77,66,49]⟩,.func (.func 126) #[] #[],.func (.func 127) #[] #[],.int .i64 32,.bool false,.bool false] 126)).heap.size=F+1:=by simp [hF]
 have hF1:w.heap.size<F:=by omega
 clear hF;generalize (World.alloc w2 _)=w4 at HB2 HR2 HF2 hsF ⊢;have q1:=(cell_of_row w4 F 1 _ _ _ HF2.out).trans (show _=some (Value.func (.func 126) #[] #[]) from rfl);obtain⟨b0,b1,b2,b3,b4,b5,_⟩:=six_at HR2.out;have KB:=H_ (OlW.bytes1_ok (b:=b) (StrsAt.below HX.out HB2.out hB) (MsgsAt.below HM.out HB2.out hB) hwc hmc (show B<=w4.heap.size by omega) H0.out);go_upto_region 5 with (go_at_call 126; go_loud (
  refine KB.out.mono ?_;rintro e w5 ⟨A,n,c,rfl,hnc,hz,hb5,hf5⟩;have HF:=H_ (show ∀ ad:Addr,A=some ad->w.heap.size<=ad.block from fun ad e=>Nat.le_trans HB2.out.size (hf5 ad e));clear hf5;have hs5:=hb5.size;have HZ:=H_ hz;have HB5:=H_ (HB2.out.trans (hb5.mono (by omega)));have HR5:=H_ ((hb5.block w.heap.size (by omega)).trans HR2.out);have HF5:=H_ ((hb5.block F (by omega)).trans HF2.out);clear hz hb5 q1 b0 b1 b2 b3 b4 b5))
 clear HB2 HR2 HF2 KB;have cX:=fun o=>cell_of_row w5 F o _ _ _ HF5.out;have q0:=(cX 0).trans (show _=some (Value.string ⟨#[77,66,49]⟩) from rfl);have q1:=(cX 1).trans (show _=some (Value.func (.func 126) #[] #[]) from rfl);have q2:=(cX 2).trans (show _=some (Value.func (.func 127) #[] #[]) from rfl);have q3:=(cX 3).trans (show _=some (Value.int .i64 32) from rfl);have q4:=(cX 4).trans (show _=some (Value.bool false) from rfl);have q5:=(cX 5).trans (show _=some (Value.bool false) from rfl);clear cX;obtain⟨b0,b1,b2,b3,b4,b5,_⟩:=six_at HR5.out;have KR:=H_ (rest_any (f:=fm1) (b:=b) (mk:=⟨#[77,66,49]⟩) (kb:=126) (kp:=127) (wcp:=wcp) (mcp:=mcp) (HT.out.below HB5.out lr_) (StrsAt.below HX.out HB5.out hB) (MsgsAt.below HM.out HB5.out hB) (by omega) hwc (.inl rfl) H0.out);have KR:=H_ (show Calls Tryz.prog 94 #[.agg #[.string ⟨#[77,66,49]⟩,.func (.func 126) #[] #[],.func (.func 127) #[] #[],.int .i64 32,.bool false,.bool false],.agg #[.string b.id,.int .i64 b.valid,.int .i64 b.next,.int .i64 b.high,.slice WA wn wcp,.slice MA mn mcp]] w5 (RestOut (re fm1 b) w5) from KR.out);go_upto_region 8 with (go_at_call 94; go_loud (
  refine KR.out.mono ?_;rintro e w6 ⟨A2,n2,c2,rs,rfl,hr,hS,hb6⟩;have hs6:=hb6.size;have hn2:n2<=153:=by
   have h1:=hS.ln;have h2:=HLN.out;rw [<- hr,List.length_map] at h2;omega
  have HRS:=H_ (show RowsAt w6 w6.heap.size A2 n2 (re fm1 b) by
   have:=hS.rows (by omega) (Nat.le_refl w6.heap.size)
   rwa [hr] at this)
  have hc2:=hS.le;have HB6:=H_ (HB5.out.trans (hb6.mono (by omega)));have HZ6:=H_ ((HZ.out.below hb6 lr_).more hs6);clear hr hS hb6 q0 q1 q2 q3 q4 q5 b0 b1 b2 b3 b4 b5))
 clear KR;have hn200 : ¬ (200:Int)<(n2:Int):=by omega
 go_wp2_with fail
 refine bodyPost_ret (v:=.tuple #[.slice A n c,.slice A2 n2 c2,.int .i64 0]) (by rw [results_tmp3 (t:=4) (u:=5) (v:=6) rfl]; rfl) rfl ?_;exact⟨A,n,c,A2,n2,c2,rfl,hnc,hc2,hn2,HZ6.out,HRS.out,HB6.out,HF.out⟩
theorem make_2 {w:World} {B wn wcp mn mcp:Nat} {WA MA:Option Addr} {b:Box} (ht:BxO.Tab w) (hx:StrsAt w B WA wn b.words) (hm:MsgsAt w B MA mn b.msgs) (hB:B<=w.heap.size) (hwc:wn<=wcp) (hmc:mn<=mcp) (h0:mbE b=0) :
 Calls Tryz.prog 47 #[.int .i64 2,.agg #[.string b.id,.int .i64 b.valid,.int .i64 b.next,.int .i64 b.high,.slice WA wn wcp,.slice MA mn mcp]] w (MakeOut (eb true b) (re fm2 b) w):=by
 have hb0:=(Below.refl w.heap.size w).alloc lr_ (.cells #[.string b.id,.int .i64 b.valid,.int .i64 b.next,.int .i64 b.high,.slice WA wn wcp,.slice MA mn mcp] 25);have HB0:=H_ hb0;have HR0:=H_ (heap_alloc_new w (.cells #[.string b.id,.int .i64 b.valid,.int .i64 b.next,.int .i64 b.high,.slice WA wn wcp,.slice MA mn mcp] 25));have hs0:(w.alloc (.cells #[.string b.id,.int .i64 b.valid,.int .i64 b.next,.int .i64 b.high,.slice WA wn wcp,.slice MA mn mcp] 25)).heap.size=w.heap.size+1:=by simp
 have HT:=H_ ht;have HX:=H_ hx;have HM:=H_ hm;have H0:=H_ h0;have HLN:=H_ (re_len (f:=fm2) (.inr (.inl rfl)) h0);clear hb0 ht hx hm h0;go_enter Tryz.func47,Tryz.ntmps47;go_upto_region 1 with fail
 generalize (World.alloc w _)=w1 at HB0 HR0 hs0 ⊢;have KF:=H_ (formOf_2 w1);go_upto_region 2 with (go_at_call 86; go_loud (
  refine KF.out.mono ?_;rintro e w2 ⟨rfl,hb2⟩;have hs2:=hb2.size;have HB2:=H_ ((HB0.out.trans (hb2.mono (by omega))).alloc (by omega) (.cells #[.string ⟨#[77,66,50]⟩,.func (.func 128) #[] #[],.func (.func 129) #[] #[],.int .i64 32,.bool true,.bool false] 126));have HR2:=H_ ((heap_alloc_old w2 (.cells #[.string ⟨#[77,66,50]⟩,.func (.func 128) #[] #[],.func (.func 129) #[] #[],.int .i64 32,.bool true,.bool false] 126) (show w.heap.size<w2.heap.size by omega)).trans ((hb2.block w.heap.size (by omega)).trans HR0.out));have HF2:=H_ (heap_alloc_new w2 (.cells #[.string ⟨#[77,66,50]⟩,.func (.func 128) #[] #[],.func (.func 129) #[] #[],.int .i64 32,.bool true,.bool false] 126));clear hb2))
 clear HB0 HR0 KF;obtain⟨F,hF⟩ : ∃ F,F=w2.heap.size:=⟨_,rfl⟩;rw [<- hF] at HF2 ⊢;have hsF:(w2.alloc (.cells #[.string ⟨#[77,66,50]⟩,.func (.func 128) #[] #[],.func (.func 129) #[] #[],.int .i64 32,.bool true,.bool false] 126)).heap.size=F+1:=by simp [hF]
 have hF1:w.heap.size<F:=by omega
 clear hF;generalize (World.alloc w2 _)=w4 at HB2 HR2 HF2 hsF ⊢;have q1:=(cell_of_row w4 F 1 _ _ _ HF2.out).trans (show _=some (Value.func (.func 128) #[] #[]) from rfl);obtain⟨b0,b1,b2,b3,b4,b5,_⟩:=six_at HR2.out;have KB:=H_ (OlW.bytes2_ok (b:=b) (StrsAt.below HX.out HB2.out hB) (MsgsAt.below HM.out HB2.out hB) hwc hmc (show B<=w4.heap.size by omega) H0.out);go_upto_region 5 with (go_at_call 128; go_loud (
  refine KB.out.mono ?_;rintro e w5 ⟨A,n,c,rfl,hnc,hz,hb5,hf5⟩;have HF:=H_ (show ∀ ad:Addr,A=some ad->w.heap.size<=ad.block from fun ad e=>Nat.le_trans HB2.out.size (hf5 ad e));clear hf5;have hs5:=hb5.size;have HZ:=H_ hz;have HB5:=H_ (HB2.out.trans (hb5.mono (by omega)));have HR5:=H_ ((hb5.block w.heap.size (by omega)).trans HR2.out);have HF5:=H_ ((hb5.block F (by omega)).trans HF2.out);clear hz hb5 q1 b0 b1 b2 b3 b4 b5))
 clear HB2 HR2 HF2 KB;have cX:=fun o=>cell_of_row w5 F o _ _ _ HF5.out;have q0:=(cX 0).trans (show _=some (Value.string ⟨#[77,66,50]⟩) from rfl);have q1:=(cX 1).trans (show _=some (Value.func (.func 128) #[] #[]) from rfl);have q2:=(cX 2).trans (show _=some (Value.func (.func 129) #[] #[]) from rfl);have q3:=(cX 3).trans (show _=some (Value.int .i64 32) from rfl);have q4:=(cX 4).trans (show _=some (Value.bool true) from rfl);have q5:=(cX 5).trans (show _=some (Value.bool false) from rfl);clear cX;obtain⟨b0,b1,b2,b3,b4,b5,_⟩:=six_at HR5.out;have KR:=H_ (rest_any (f:=fm2) (b:=b) (mk:=⟨#[77,66,50]⟩) (kb:=128) (kp:=129) (wcp:=wcp) (mcp:=mcp) (HT.out.below HB5.out lr_) (StrsAt.below HX.out HB5.out hB) (MsgsAt.below HM.out HB5.out hB) (by omega) hwc (.inr (.inl rfl)) H0.out);have KR:=H_ (show Calls Tryz.prog 94 #[.agg #[.string ⟨#[77,66,50]⟩,.func (.func 128) #[] #[],.func (.func 129) #[] #[],.int .i64 32,.bool true,.bool false],.agg #[.string b.id,.int .i64 b.valid,.int .i64 b.next,.int .i64 b.high,.slice WA wn wcp,.slice MA mn mcp]] w5 (RestOut (re fm2 b) w5) from KR.out);go_upto_region 8 with (go_at_call 94; go_loud (
  refine KR.out.mono ?_;rintro e w6 ⟨A2,n2,c2,rs,rfl,hr,hS,hb6⟩;have hs6:=hb6.size;have hn2:n2<=153:=by
   have h1:=hS.ln;have h2:=HLN.out;rw [<- hr,List.length_map] at h2;omega
  have HRS:=H_ (show RowsAt w6 w6.heap.size A2 n2 (re fm2 b) by
   have:=hS.rows (by omega) (Nat.le_refl w6.heap.size)
   rwa [hr] at this)
  have hc2:=hS.le;have HB6:=H_ (HB5.out.trans (hb6.mono (by omega)));have HZ6:=H_ ((HZ.out.below hb6 lr_).more hs6);clear hr hS hb6 q0 q1 q2 q3 q4 q5 b0 b1 b2 b3 b4 b5))
 clear KR;have hn200 : ¬ (200:Int)<(n2:Int):=by omega
 go_wp2_with fail
 refine bodyPost_ret (v:=.tuple #[.slice A n c,.slice A2 n2 c2,.int .i64 0]) (by rw [results_tmp3 (t:=4) (u:=5) (v:=6) rfl]; rfl) rfl ?_;exact⟨A,n,c,A2,n2,c2,rfl,hnc,hc2,hn2,HZ6.out,HRS.out,HB6.out,HF.out⟩
theorem make_3 {w:World} {B wn wcp mn mcp:Nat} {WA MA:Option Addr} {b:Box} (ht:BxO.Tab w) (hx:StrsAt w B WA wn b.words) (hm:MsgsAt w B MA mn b.msgs) (hB:B<=w.heap.size) (hwc:wn<=wcp) (hmc:mn<=mcp) (h0:mbE b=0) :
 Calls Tryz.prog 47 #[.int .i64 3,.agg #[.string b.id,.int .i64 b.valid,.int .i64 b.next,.int .i64 b.high,.slice WA wn wcp,.slice MA mn mcp]] w (MakeOut (F3D.e3 b) (re fm3 b) w):=by
 have hb0:=(Below.refl w.heap.size w).alloc lr_ (.cells #[.string b.id,.int .i64 b.valid,.int .i64 b.next,.int .i64 b.high,.slice WA wn wcp,.slice MA mn mcp] 25);have HB0:=H_ hb0;have HR0:=H_ (heap_alloc_new w (.cells #[.string b.id,.int .i64 b.valid,.int .i64 b.next,.int .i64 b.high,.slice WA wn wcp,.slice MA mn mcp] 25));have hs0:(w.alloc (.cells #[.string b.id,.int .i64 b.valid,.int .i64 b.next,.int .i64 b.high,.slice WA wn wcp,.slice MA mn mcp] 25)).heap.size=w.heap.size+1:=by simp
 have HT:=H_ ht;have HX:=H_ hx;have HM:=H_ hm;have H0:=H_ h0;have HLN:=H_ (re_len (f:=fm3) (.inr (.inr rfl)) h0);clear hb0 ht hx hm h0;go_enter Tryz.func47,Tryz.ntmps47;go_upto_region 1 with fail
 generalize (World.alloc w _)=w1 at HB0 HR0 hs0 ⊢;have KF:=H_ (formOf_3 w1);go_upto_region 2 with (go_at_call 86; go_loud (
  refine KF.out.mono ?_;rintro e w2 ⟨rfl,hb2⟩;have hs2:=hb2.size;have HB2:=H_ ((HB0.out.trans (hb2.mono (by omega))).alloc (by omega) (.cells #[.string ⟨#[77,66,51]⟩,.func (.func 130) #[] #[],.func (.func 131) #[] #[],.int .i64 64,.bool true,.bool true] 126));have HR2:=H_ ((heap_alloc_old w2 (.cells #[.string ⟨#[77,66,51]⟩,.func (.func 130) #[] #[],.func (.func 131) #[] #[],.int .i64 64,.bool true,.bool true] 126) (show w.heap.size<w2.heap.size by omega)).trans ((hb2.block w.heap.size (by omega)).trans HR0.out));have HF2:=H_ (heap_alloc_new w2 (.cells #[.string ⟨#[77,66,51]⟩,.func (.func 130) #[] #[],.func (.func 131) #[] #[],.int .i64 64,.bool true,.bool true] 126));clear hb2))
 clear HB0 HR0 KF;obtain⟨F,hF⟩ : ∃ F,F=w2.heap.size:=⟨_,rfl⟩;rw [<- hF] at HF2 ⊢;have hsF:(w2.alloc (.cells #[.string ⟨#[77,66,51]⟩,.func (.func 130) #[] #[],.func (.func 131) #[] #[],.int .i64 64,.bool true,.bool true] 126)).heap.size=F+1:=by simp [hF]
 have hF1:w.heap.size<F:=by omega
 clear hF;generalize (World.alloc w2 _)=w4 at HB2 HR2 HF2 hsF ⊢;have q1:=(cell_of_row w4 F 1 _ _ _ HF2.out).trans (show _=some (Value.func (.func 130) #[] #[]) from rfl);obtain⟨b0,b1,b2,b3,b4,b5,_⟩:=six_at HR2.out;have KB:=H_ (F3C.bytes_ok (b:=b) (StrsAt.below HX.out HB2.out hB) (MsgsAt.below HM.out HB2.out hB) hwc hmc (show B<=w4.heap.size by omega) H0.out);go_upto_region 5 with (go_at_call 130; go_loud (
  refine KB.out.mono ?_;rintro e w5 ⟨A,n,c,rfl,hnc,hz,hb5,hf5⟩;have HF:=H_ (show ∀ ad:Addr,A=some ad->w.heap.size<=ad.block from fun ad e=>Nat.le_trans HB2.out.size (hf5 ad e));clear hf5;have hs5:=hb5.size;have HZ:=H_ hz;have HB5:=H_ (HB2.out.trans (hb5.mono (by omega)));have HR5:=H_ ((hb5.block w.heap.size (by omega)).trans HR2.out);have HF5:=H_ ((hb5.block F (by omega)).trans HF2.out);clear hz hb5 q1 b0 b1 b2 b3 b4 b5))
 clear HB2 HR2 HF2 KB;have cX:=fun o=>cell_of_row w5 F o _ _ _ HF5.out;have q0:=(cX 0).trans (show _=some (Value.string ⟨#[77,66,51]⟩) from rfl);have q1:=(cX 1).trans (show _=some (Value.func (.func 130) #[] #[]) from rfl);have q2:=(cX 2).trans (show _=some (Value.func (.func 131) #[] #[]) from rfl);have q3:=(cX 3).trans (show _=some (Value.int .i64 64) from rfl);have q4:=(cX 4).trans (show _=some (Value.bool true) from rfl);have q5:=(cX 5).trans (show _=some (Value.bool true) from rfl);clear cX;obtain⟨b0,b1,b2,b3,b4,b5,_⟩:=six_at HR5.out;have KR:=H_ (rest_any (f:=fm3) (b:=b) (mk:=⟨#[77,66,51]⟩) (kb:=130) (kp:=131) (wcp:=wcp) (mcp:=mcp) (HT.out.below HB5.out lr_) (StrsAt.below HX.out HB5.out hB) (MsgsAt.below HM.out HB5.out hB) (by omega) hwc (.inr (.inr rfl)) H0.out);have KR:=H_ (show Calls Tryz.prog 94 #[.agg #[.string ⟨#[77,66,51]⟩,.func (.func 130) #[] #[],.func (.func 131) #[] #[],.int .i64 64,.bool true,.bool true],.agg #[.string b.id,.int .i64 b.valid,.int .i64 b.next,.int .i64 b.high,.slice WA wn wcp,.slice MA mn mcp]] w5 (RestOut (re fm3 b) w5) from KR.out);go_upto_region 8 with (go_at_call 94; go_loud (
  refine KR.out.mono ?_;rintro e w6 ⟨A2,n2,c2,rs,rfl,hr,hS,hb6⟩;have hs6:=hb6.size;have hn2:n2<=153:=by
   have h1:=hS.ln;have h2:=HLN.out;rw [<- hr,List.length_map] at h2;omega
  have HRS:=H_ (show RowsAt w6 w6.heap.size A2 n2 (re fm3 b) by
   have:=hS.rows (by omega) (Nat.le_refl w6.heap.size)
   rwa [hr] at this)
  have hc2:=hS.le;have HB6:=H_ (HB5.out.trans (hb6.mono (by omega)));have HZ6:=H_ ((HZ.out.below hb6 lr_).more hs6);clear hr hS hb6 q0 q1 q2 q3 q4 q5 b0 b1 b2 b3 b4 b5))
 clear KR;have hn200 : ¬ (200:Int)<(n2:Int):=by omega
 go_wp2_with fail
 refine bodyPost_ret (v:=.tuple #[.slice A n c,.slice A2 n2 c2,.int .i64 0]) (by rw [results_tmp3 (t:=4) (u:=5) (v:=6) rfl]; rfl) rfl ?_;exact⟨A,n,c,A2,n2,c2,rfl,hnc,hc2,hn2,HZ6.out,HRS.out,HB6.out,HF.out⟩
end Go.Proofs.YtoljpfapphoflaaGreatDoor.ImN

set_option maxHeartbeats 4000000
set_option maxRecDepth 100000
namespace Go.Proofs.YtoljpfapphoflaaGreatDoor.ImP
open Go.RowKit BxD BxKit BxR BxC OlD PtK RwD RwKit ImD ImK ImA ImB F3D
open PkKit (BytesAt)
def parseI (l:List UInt8) (id:ByteArray):Box × Int:=if verN l=1 then parseS false l id else if verN l=2 then parseS true l id else if verN l=3 then parse3S l id else (nB,3)
theorem ver_le (l:List UInt8):verN l=0\/verN l=1\/verN l=2\/verN l=3:=by
 unfold verN;split
 · exact .inr (.inl rfl)
 · split
   · exact .inr (.inr (.inl rfl))
   · split
     · exact .inr (.inr (.inr rfl))
     · exact .inl rfl
theorem parse_0 {w:World} {B n cp:Nat} {A:Option Addr} {l:List UInt8} {id:ByteArray} (hz:BytesAt w B A n l) (hB:B<=w.heap.size) (hc:n<=cp) (hn:n<=140737488355328) (hv:verN l=0) :
 Calls Tryz.prog 42 #[.slice A n cp,.string id] w (ParseNew ((nB,(3:Int))).1 ((nB,(3:Int))).2 w):=by
 have hb0:=(Below.refl w.heap.size w).alloc lr_ (.cells zbox 25);have hr0:=heap_alloc_new w (.cells zbox 25);have hz0:=hz.below hb0 hB;have hs0:(w.alloc (.cells zbox 25)).heap.size=w.heap.size+1:=by simp
 unfold zbox at hb0 hr0 hz0 hs0;have HB0:=H_ hb0;have HR0:=H_ hr0;have HZ0:=H_ hz0;have HV:=H_ hv;clear hz hb0 hr0 hz0 hv;go_enter Tryz.func42,Tryz.ntmps42;go_upto_region 1 with fail
 generalize (World.alloc w _)=w1 at HB0 HR0 HZ0 hs0 ⊢;have KV0:=version_any (cp:=cp) HZ0.out (show B<=w1.heap.size by omega) hc hn;rw [HV.out] at KV0;have KV:=H_ KV0;clear KV0;go_upto_region 2 with (first
  | (go_at_call 44; go_loud (
     refine KV.out.mono ?_;rintro e w2 ⟨rfl,hb2⟩;have hs2:=hb2.size;have HB2:=H_ (HB0.out.trans (hb2.mono (by omega)));have HR2:=H_ ((hb2.block w.heap.size (by omega)).trans HR0.out);have HZ2:=H_ (HZ0.out.below hb2 (show B<=w1.heap.size by omega));have KF:=H_ (formOf_0 w2);clear hb2))
  | (go_at_call 86; go_loud (
     refine KF.out.mono ?_;rintro e w3 ⟨rfl,hb3⟩;have hs3:=hb3.size;have HB3:=H_ ((HB2.out.trans (hb3.mono (by omega))).alloc (by omega) (.cells #[.string ⟨#[]⟩,.nilFunc,.nilFunc,.int .i64 0,.bool false,.bool false] 126));have HR3:=H_ ((heap_alloc_old w3 (.cells #[.string ⟨#[]⟩,.nilFunc,.nilFunc,.int .i64 0,.bool false,.bool false] 126) (show w.heap.size<w3.heap.size by omega)).trans ((hb3.block w.heap.size (by omega)).trans HR2.out));have HZ3:=H_ (HZ2.out.below (hb3.alloc hb3.size (.cells #[.string ⟨#[]⟩,.nilFunc,.nilFunc,.int .i64 0,.bool false,.bool false] 126)) (show B<=w2.heap.size by omega));have HF3:=H_ (heap_alloc_new w3 (.cells #[.string ⟨#[]⟩,.nilFunc,.nilFunc,.int .i64 0,.bool false,.bool false] 126));clear hb3)))
 clear HB0 HR0 HZ0 KV HB2 HR2 HZ2 KF;obtain⟨F,hF⟩ : ∃ F,F=w3.heap.size:=⟨_,rfl⟩;rw [<- hF] at HF3 ⊢;have hsF:(w3.alloc (.cells #[.string ⟨#[]⟩,.nilFunc,.nilFunc,.int .i64 0,.bool false,.bool false] 126)).heap.size=F+1:=by simp [hF]
 have hF1:w.heap.size<F:=by omega
 clear hF;generalize (World.alloc w3 _)=w4 at HB3 HR3 HZ3 HF3 hsF ⊢;obtain⟨z0,z1,z2,z3,z4,z5,zf⟩:=zcells6 HR3.out;have f0:=zf 0;have f1:=zf 1;have f2:=zf 2;have f3:=zf 3;have f4:=zf 4;have f5:=zf 5;clear zf;go_wp2_with fail
 obtain⟨W,hW,p0,p1,p2,p3,p4,p5,hWg⟩:=ret6 HR3.out (.string ⟨#[]⟩) (.int .i64 0) (.int .i64 0) (.int .i64 0) (.slice none 0 0) (.slice none 0 0);rw [<- hW];refine bodyPost_ret (v:=.tuple #[.agg #[.string ⟨#[]⟩,.int .i64 0,.int .i64 0,.int .i64 0,.slice none 0 0,.slice none 0 0],.int .i64 3]) (by simp [results,Tryz.results42,go_sem,p0,p1,p2,p3,p4,p5]) rfl ?_;exact⟨none,0,0,none,0,0,rfl,Nat.le_refl _,Nat.le_refl _,fun _ _ _=>⟨RowAt.nil _ _ _ _ _,RowAt.nil _ _ _ _ _⟩,HB3.out.grown hWg (by omega) (fun k e=>by have:w.heap.size=k:=Option.some.inj e; omega)⟩
theorem parse_1 {w:World} {B n cp:Nat} {A:Option Addr} {l:List UInt8} {id:ByteArray} (ht:BxO.Tab w) (hz:BytesAt w B A n l) (hB:B<=w.heap.size) (hc:n<=cp) (hn:n<=140737488355328) (hid:id.size<=200) (hv:verN l=1) :
 Calls Tryz.prog 42 #[.slice A n cp,.string id] w (ParseNew (parseS false l id).1 (parseS false l id).2 w):=by
 have hb0:=(Below.refl w.heap.size w).alloc lr_ (.cells zbox 25);have hr0:=heap_alloc_new w (.cells zbox 25);have hz0:=hz.below hb0 hB;have hs0:(w.alloc (.cells zbox 25)).heap.size=w.heap.size+1:=by simp
 unfold zbox at hb0 hr0 hz0 hs0;have HT0:=H_ (ht.below hb0 lr_);obtain⟨pb,hpb⟩ : ∃ pb,pb=(parseS false l id).1:=⟨_,rfl⟩;obtain⟨pe,hpe⟩ : ∃ pe,pe=(parseS false l id).2:=⟨_,rfl⟩;have HPB:=H_ hpb;have HPE:=H_ hpe;rw [<- hpb,<- hpe];clear hpb hpe;have HB0:=H_ hb0;have HR0:=H_ hr0;have HZ0:=H_ hz0;have HV:=H_ hv;clear hz hb0 hr0 hz0 hv ht;go_enter Tryz.func42,Tryz.ntmps42;go_upto_region 1 with fail
 generalize (World.alloc w _)=w1 at HB0 HR0 HZ0 HT0 hs0 ⊢;have KV0:=version_any (cp:=cp) HZ0.out (show B<=w1.heap.size by omega) hc hn;rw [HV.out] at KV0;have KV:=H_ KV0;clear KV0;go_upto_region 2 with (first
  | (go_at_call 44; go_loud (
     refine KV.out.mono ?_;rintro e w2 ⟨rfl,hb2⟩;have hs2:=hb2.size;have HB2:=H_ (HB0.out.trans (hb2.mono (by omega)));have HR2:=H_ ((hb2.block w.heap.size (by omega)).trans HR0.out);have HZ2:=H_ (HZ0.out.below hb2 (show B<=w1.heap.size by omega));have HT2:=H_ (HT0.out.below hb2 lr_);have KF:=H_ (formOf_1 w2);clear hb2))
  | (go_at_call 86; go_loud (
     refine KF.out.mono ?_;rintro e w3 ⟨rfl,hb3⟩;have hs3:=hb3.size;have HB3:=H_ ((HB2.out.trans (hb3.mono (by omega))).alloc (by omega) (.cells #[.string ⟨#[77,66,49]⟩,.func (.func 126) #[] #[],.func (.func 127) #[] #[],.int .i64 32,.bool false,.bool false] 126));have HR3:=H_ ((heap_alloc_old w3 (.cells #[.string ⟨#[77,66,49]⟩,.func (.func 126) #[] #[],.func (.func 127) #[] #[],.int .i64 32,.bool false,.bool false] 126) (show w.heap.size<w3.heap.size by omega)).trans ((hb3.block w.heap.size (by omega)).trans HR2.out));have HZ3:=H_ (HZ2.out.below (hb3.alloc hb3.size (.cells #[.string ⟨#[77,66,49]⟩,.func (.func 126) #[] #[],.func (.func 127) #[] #[],.int .i64 32,.bool false,.bool false] 126)) (show B<=w2.heap.size by omega));have HT3:=H_ (HT2.out.below (hb3.alloc hb3.size (.cells #[.string ⟨#[77,66,49]⟩,.func (.func 126) #[] #[],.func (.func 127) #[] #[],.int .i64 32,.bool false,.bool false] 126)) lr_);have HF3:=H_ (heap_alloc_new w3 (.cells #[.string ⟨#[77,66,49]⟩,.func (.func 126) #[] #[],.func (.func 127) #[] #[],.int .i64 32,.bool false,.bool false] 126));clear hb3)))
 clear HB0 HR0 HZ0 KV HB2 HR2 HZ2 KF;obtain⟨F,hF⟩ : ∃ F,F=w3.heap.size:=⟨_,rfl⟩;rw [<- hF] at HF3 ⊢;have hsF:(w3.alloc (.cells #[.string ⟨#[77,66,49]⟩,.func (.func 126) #[] #[],.func (.func 127) #[] #[],.int .i64 32,.bool false,.bool false] 126)).heap.size=F+1:=by simp [hF]
 have hF1:w.heap.size<F:=by omega
 clear hF;generalize (World.alloc w3 _)=w4 at HB3 HR3 HZ3 HF3 HT3 hsF ⊢;have KP0:=OlW.parse1_any (id:=id) (cp:=cp) HT3.out HZ3.out (by omega) hc hn hid;rw [<- HPB.out,<- HPE.out] at KP0;have KP:=H_ KP0;have q2:=(cell_of_row w4 F 2 _ _ _ HF3.out).trans (show _=some (Value.func (.func 127) #[] #[]) from rfl);clear KP0
 go_wp2_with (go_at_call 127; go_loud (
      refine KP.out.mono ?_;rintro e w5 ⟨WA,wn,wc,MA,mn,mc',rfl,hwc,hmc,hn5,hb5⟩;have HN5:=H_ hn5;have hs5:=hb5.size;have HB5:=H_ (HB3.out.trans (hb5.mono (by omega)));have HR5:=H_ ((hb5.block w.heap.size (by omega)).trans HR3.out);obtain⟨z0,z1,z2,z3,z4,z5,zf⟩:=zcells6 HR5.out;have f0:=zf 0;have f1:=zf 1;have f2:=zf 2;have f3:=zf 3;have f4:=zf 4;have f5:=zf 5;clear zf hn5 hb5 q2))
 obtain⟨W,hW,p0,p1,p2,p3,p4,p5,hWg⟩:=ret6 HR5.out (.string pb.id) (.int .i64 pb.valid) (.int .i64 pb.next) (.int .i64 pb.high) (.slice WA wn wc) (.slice MA mn mc');rw [<- hW];refine bodyPost_ret (v:=.tuple #[.agg #[.string pb.id,.int .i64 pb.valid,.int .i64 pb.next,.int .i64 pb.high,.slice WA wn wc,.slice MA mn mc'],.int .i64 pe]) (by simp [results,Tryz.results42,go_sem,p0,p1,p2,p3,p4,p5]) rfl ?_;have hsW:=hWg.size;refine⟨WA,wn,wc,MA,mn,mc',rfl,hwc,hmc,fun W2 hW2 hW3=>HN5.out W2 (fun k h1 h2=>?_) (by omega),HB5.out.grown hWg (by omega) (fun k e=>by have:w.heap.size=k:=Option.some.inj e; omega)⟩;exact (hW2 k (by omega) (by omega)).trans (hWg.block k h2 (fun e=>by have:k=w.heap.size:=Option.some.inj e; omega))
theorem parse_2 {w:World} {B n cp:Nat} {A:Option Addr} {l:List UInt8} {id:ByteArray} (ht:BxO.Tab w) (hz:BytesAt w B A n l) (hB:B<=w.heap.size) (hc:n<=cp) (hn:n<=140737488355328) (hid:id.size<=200) (hv:verN l=2) :
 Calls Tryz.prog 42 #[.slice A n cp,.string id] w (ParseNew (parseS true l id).1 (parseS true l id).2 w):=by
 have hb0:=(Below.refl w.heap.size w).alloc lr_ (.cells zbox 25);have hr0:=heap_alloc_new w (.cells zbox 25);have hz0:=hz.below hb0 hB;have hs0:(w.alloc (.cells zbox 25)).heap.size=w.heap.size+1:=by simp
 unfold zbox at hb0 hr0 hz0 hs0;have HT0:=H_ (ht.below hb0 lr_);obtain⟨pb,hpb⟩ : ∃ pb,pb=(parseS true l id).1:=⟨_,rfl⟩;obtain⟨pe,hpe⟩ : ∃ pe,pe=(parseS true l id).2:=⟨_,rfl⟩;have HPB:=H_ hpb;have HPE:=H_ hpe;rw [<- hpb,<- hpe];clear hpb hpe;have HB0:=H_ hb0;have HR0:=H_ hr0;have HZ0:=H_ hz0;have HV:=H_ hv;clear hz hb0 hr0 hz0 hv ht;go_enter Tryz.func42,Tryz.ntmps42;go_upto_region 1 with fail
 generalize (World.alloc w _)=w1 at HB0 HR0 HZ0 HT0 hs0 ⊢;have KV0:=version_any (cp:=cp) HZ0.out (show B<=w1.heap.size by omega) hc hn;rw [HV.out] at KV0;have KV:=H_ KV0;clear KV0;go_upto_region 2 with (first
  | (go_at_call 44; go_loud (
     refine KV.out.mono ?_;rintro e w2 ⟨rfl,hb2⟩;have hs2:=hb2.size;have HB2:=H_ (HB0.out.trans (hb2.mono (by omega)));have HR2:=H_ ((hb2.block w.heap.size (by omega)).trans HR0.out);have HZ2:=H_ (HZ0.out.below hb2 (show B<=w1.heap.size by omega));have HT2:=H_ (HT0.out.below hb2 lr_);have KF:=H_ (formOf_2 w2);clear hb2))
  | (go_at_call 86; go_loud (
     refine KF.out.mono ?_;rintro e w3 ⟨rfl,hb3⟩;have hs3:=hb3.size;have HB3:=H_ ((HB2.out.trans (hb3.mono (by omega))).alloc (by omega) (.cells #[.string ⟨#[77,66,50]⟩,.func (.func 128) #[] #[],.func (.func 129) #[] #[],.int .i64 32,.bool true,.bool false] 126));have HR3:=H_ ((heap_alloc_old w3 (.cells #[.string ⟨#[77,66,50]⟩,.func (.func 128) #[] #[],.func (.func 129) #[] #[],.int .i64 32,.bool true,.bool false] 126) (show w.heap.size<w3.heap.size by omega)).trans ((hb3.block w.heap.size (by omega)).trans HR2.out));have HZ3:=H_ (HZ2.out.below (hb3.alloc hb3.size (.cells #[.string ⟨#[77,66,50]⟩,.func (.func 128) #[] #[],.func (.func 129) #[] #[],.int .i64 32,.bool true,.bool false] 126)) (show B<=w2.heap.size by omega));have HT3:=H_ (HT2.out.below (hb3.alloc hb3.size (.cells #[.string ⟨#[77,66,50]⟩,.func (.func 128) #[] #[],.func (.func 129) #[] #[],.int .i64 32,.bool true,.bool false] 126)) lr_);have HF3:=H_ (heap_alloc_new w3 (.cells #[.string ⟨#[77,66,50]⟩,.func (.func 128) #[] #[],.func (.func 129) #[] #[],.int .i64 32,.bool true,.bool false] 126));clear hb3)))
 clear HB0 HR0 HZ0 KV HB2 HR2 HZ2 KF;obtain⟨F,hF⟩ : ∃ F,F=w3.heap.size:=⟨_,rfl⟩;rw [<- hF] at HF3 ⊢;have hsF:(w3.alloc (.cells #[.string ⟨#[77,66,50]⟩,.func (.func 128) #[] #[],.func (.func 129) #[] #[],.int .i64 32,.bool true,.bool false] 126)).heap.size=F+1:=by simp [hF]
 have hF1:w.heap.size<F:=by omega
 clear hF;generalize (World.alloc w3 _)=w4 at HB3 HR3 HZ3 HF3 HT3 hsF ⊢;have KP0:=OlW.parse2_any (id:=id) (cp:=cp) HT3.out HZ3.out (by omega) hc hn hid;rw [<- HPB.out,<- HPE.out] at KP0;have KP:=H_ KP0;have q2:=(cell_of_row w4 F 2 _ _ _ HF3.out).trans (show _=some (Value.func (.func 129) #[] #[]) from rfl);clear KP0
 go_wp2_with (go_at_call 129; go_loud (
      refine KP.out.mono ?_;rintro e w5 ⟨WA,wn,wc,MA,mn,mc',rfl,hwc,hmc,hn5,hb5⟩;have HN5:=H_ hn5;have hs5:=hb5.size;have HB5:=H_ (HB3.out.trans (hb5.mono (by omega)));have HR5:=H_ ((hb5.block w.heap.size (by omega)).trans HR3.out);obtain⟨z0,z1,z2,z3,z4,z5,zf⟩:=zcells6 HR5.out;have f0:=zf 0;have f1:=zf 1;have f2:=zf 2;have f3:=zf 3;have f4:=zf 4;have f5:=zf 5;clear zf hn5 hb5 q2))
 obtain⟨W,hW,p0,p1,p2,p3,p4,p5,hWg⟩:=ret6 HR5.out (.string pb.id) (.int .i64 pb.valid) (.int .i64 pb.next) (.int .i64 pb.high) (.slice WA wn wc) (.slice MA mn mc');rw [<- hW];refine bodyPost_ret (v:=.tuple #[.agg #[.string pb.id,.int .i64 pb.valid,.int .i64 pb.next,.int .i64 pb.high,.slice WA wn wc,.slice MA mn mc'],.int .i64 pe]) (by simp [results,Tryz.results42,go_sem,p0,p1,p2,p3,p4,p5]) rfl ?_;have hsW:=hWg.size;refine⟨WA,wn,wc,MA,mn,mc',rfl,hwc,hmc,fun W2 hW2 hW3=>HN5.out W2 (fun k h1 h2=>?_) (by omega),HB5.out.grown hWg (by omega) (fun k e=>by have:w.heap.size=k:=Option.some.inj e; omega)⟩;exact (hW2 k (by omega) (by omega)).trans (hWg.block k h2 (fun e=>by have:k=w.heap.size:=Option.some.inj e; omega))
theorem parse_3 {w:World} {B n cp:Nat} {A:Option Addr} {l:List UInt8} {id:ByteArray} (hz:BytesAt w B A n l) (hB:B<=w.heap.size) (hc:n<=cp) (hn:n<=140737488355328) (hv:verN l=3) :
 Calls Tryz.prog 42 #[.slice A n cp,.string id] w (ParseNew (parse3S l id).1 (parse3S l id).2 w):=by
 have hb0:=(Below.refl w.heap.size w).alloc lr_ (.cells zbox 25);have hr0:=heap_alloc_new w (.cells zbox 25);have hz0:=hz.below hb0 hB;have hs0:(w.alloc (.cells zbox 25)).heap.size=w.heap.size+1:=by simp
 unfold zbox at hb0 hr0 hz0 hs0;obtain⟨pb,hpb⟩ : ∃ pb,pb=(parse3S l id).1:=⟨_,rfl⟩;obtain⟨pe,hpe⟩ : ∃ pe,pe=(parse3S l id).2:=⟨_,rfl⟩;have HPB:=H_ hpb;have HPE:=H_ hpe;rw [<- hpb,<- hpe];clear hpb hpe;have HB0:=H_ hb0;have HR0:=H_ hr0;have HZ0:=H_ hz0;have HV:=H_ hv;clear hz hb0 hr0 hz0 hv;go_enter Tryz.func42,Tryz.ntmps42;go_upto_region 1 with fail
 generalize (World.alloc w _)=w1 at HB0 HR0 HZ0 hs0 ⊢;have KV0:=version_any (cp:=cp) HZ0.out (show B<=w1.heap.size by omega) hc hn;rw [HV.out] at KV0;have KV:=H_ KV0;clear KV0;go_upto_region 2 with (first
  | (go_at_call 44; go_loud (
     refine KV.out.mono ?_;rintro e w2 ⟨rfl,hb2⟩;have hs2:=hb2.size;have HB2:=H_ (HB0.out.trans (hb2.mono (by omega)));have HR2:=H_ ((hb2.block w.heap.size (by omega)).trans HR0.out);have HZ2:=H_ (HZ0.out.below hb2 (show B<=w1.heap.size by omega));have KF:=H_ (formOf_3 w2);clear hb2))
  | (go_at_call 86; go_loud (
     refine KF.out.mono ?_;rintro e w3 ⟨rfl,hb3⟩;have hs3:=hb3.size;have HB3:=H_ ((HB2.out.trans (hb3.mono (by omega))).alloc (by omega) (.cells #[.string ⟨#[77,66,51]⟩,.func (.func 130) #[] #[],.func (.func 131) #[] #[],.int .i64 64,.bool true,.bool true] 126));have HR3:=H_ ((heap_alloc_old w3 (.cells #[.string ⟨#[77,66,51]⟩,.func (.func 130) #[] #[],.func (.func 131) #[] #[],.int .i64 64,.bool true,.bool true] 126) (show w.heap.size<w3.heap.size by omega)).trans ((hb3.block w.heap.size (by omega)).trans HR2.out));have HZ3:=H_ (HZ2.out.below (hb3.alloc hb3.size (.cells #[.string ⟨#[77,66,51]⟩,.func (.func 130) #[] #[],.func (.func 131) #[] #[],.int .i64 64,.bool true,.bool true] 126)) (show B<=w2.heap.size by omega));have HF3:=H_ (heap_alloc_new w3 (.cells #[.string ⟨#[77,66,51]⟩,.func (.func 130) #[] #[],.func (.func 131) #[] #[],.int .i64 64,.bool true,.bool true] 126));clear hb3)))
 clear HB0 HR0 HZ0 KV HB2 HR2 HZ2 KF;obtain⟨F,hF⟩ : ∃ F,F=w3.heap.size:=⟨_,rfl⟩;rw [<- hF] at HF3 ⊢;have hsF:(w3.alloc (.cells #[.string ⟨#[77,66,51]⟩,.func (.func 130) #[] #[],.func (.func 131) #[] #[],.int .i64 64,.bool true,.bool true] 126)).heap.size=F+1:=by simp [hF]
 have hF1:w.heap.size<F:=by omega
 clear hF;generalize (World.alloc w3 _)=w4 at HB3 HR3 HZ3 HF3 hsF ⊢;have KP0:=F3Y.parse_any (id:=id) (cp:=cp) HZ3.out (by omega) hc hn;rw [<- HPB.out,<- HPE.out] at KP0;have KP:=H_ KP0;have q2:=(cell_of_row w4 F 2 _ _ _ HF3.out).trans (show _=some (Value.func (.func 131) #[] #[]) from rfl);clear KP0
 go_wp2_with (go_at_call 131; go_loud (
      refine KP.out.mono ?_;rintro e w5 ⟨WA,wn,wc,MA,mn,mc',rfl,hwc,hmc,hn5,hb5⟩;have HN5:=H_ hn5;have hs5:=hb5.size;have HB5:=H_ (HB3.out.trans (hb5.mono (by omega)));have HR5:=H_ ((hb5.block w.heap.size (by omega)).trans HR3.out);obtain⟨z0,z1,z2,z3,z4,z5,zf⟩:=zcells6 HR5.out;have f0:=zf 0;have f1:=zf 1;have f2:=zf 2;have f3:=zf 3;have f4:=zf 4;have f5:=zf 5;clear zf hn5 hb5 q2))
 obtain⟨W,hW,p0,p1,p2,p3,p4,p5,hWg⟩:=ret6 HR5.out (.string pb.id) (.int .i64 pb.valid) (.int .i64 pb.next) (.int .i64 pb.high) (.slice WA wn wc) (.slice MA mn mc');rw [<- hW];refine bodyPost_ret (v:=.tuple #[.agg #[.string pb.id,.int .i64 pb.valid,.int .i64 pb.next,.int .i64 pb.high,.slice WA wn wc,.slice MA mn mc'],.int .i64 pe]) (by simp [results,Tryz.results42,go_sem,p0,p1,p2,p3,p4,p5]) rfl ?_;have hsW:=hWg.size;refine⟨WA,wn,wc,MA,mn,mc',rfl,hwc,hmc,fun W2 hW2 hW3=>HN5.out W2 (fun k h1 h2=>?_) (by omega),HB5.out.grown hWg (by omega) (fun k e=>by have:w.heap.size=k:=Option.some.inj e; omega)⟩;exact (hW2 k (by omega) (by omega)).trans (hWg.block k h2 (fun e=>by have:k=w.heap.size:=Option.some.inj e; omega))
theorem parse_any {w:World} {B n cp:Nat} {A:Option Addr} {l:List UInt8} {id:ByteArray} (ht:BxO.Tab w) (hz:BytesAt w B A n l) (hB:B<=w.heap.size) (hc:n<=cp) (hn:n<=140737488355328) (hid:id.size<=200) :
 Calls Tryz.prog 42 #[.slice A n cp,.string id] w (ParseNew (parseI l id).1 (parseI l id).2 w):=by
 unfold parseI;rcases ver_le l with h | h | h | h
 · rw [h,if_neg (by decide),if_neg (by decide),if_neg (by decide)]; exact parse_0 hz hB hc hn h
 · rw [h,if_pos rfl]; exact parse_1 ht hz hB hc hn hid h
 · rw [h,if_neg (by decide),if_pos rfl]; exact parse_2 ht hz hB hc hn hid h
 · rw [h,if_neg (by decide),if_neg (by decide),if_pos rfl]; exact parse_3 hz hB hc hn h
end Go.Proofs.YtoljpfapphoflaaGreatDoor.ImP

set_option maxRecDepth 512
namespace Go.Proofs.YtoljpfapphoflaaGreatDoor.ImL
open Go.RowKit BxD BxKit OlD RwD RwKit ImD ImA ImP ImN
open PkKit (BytesAt)
open F3D (e3 parse3S)
def fmI (k:Nat):Fm:=if k=1 then fm1 else if k=2 then fm2 else fm3
def rawI (k:Nat) (b:Box):List UInt8:=if k=1 then eb false b else if k=2 then eb true b else e3 b
theorem fmI_is (k:Nat):Is (fmI k):=by
 unfold fmI;split
 · exact .inl rfl
 · split
   · exact .inr (.inl rfl)
   · exact .inr (.inr rfl)
theorem raw_take (k:Nat) (hk:k=1\/k=2\/k=3) (b:Box):(rawI k b).take 3=[77,66,UInt8.ofNat (48+k)]:=by
 rcases hk with rfl | rfl | rfl
 · exact OlP.take_mk (cg:=false) _
 · exact OlP.take_mk (cg:=true) _
 · exact F3D.take_mk3 _
theorem raw_ver {k:Nat} (hk:k=1\/k=2\/k=3) (b:Box):verN (rawI k b)=k:=by
 have h:=raw_take k hk b;unfold verN;rw [h];rcases hk with rfl | rfl | rfl <;> decide
theorem raw1 (b:Box):rawI 1 b=eb false b:=rfl
theorem raw2 (b:Box):rawI 2 b=eb true b:=rfl
theorem raw3 (b:Box):rawI 3 b=e3 b:=rfl
theorem pj1 (b:Box):pj (fmI 1) b=pb false b:=rfl
theorem pj2 (b:Box):pj (fmI 2) b=pb true b:=rfl
theorem raw_parse {k:Nat} (hk:k=1\/k=2\/k=3) {b:Box} (h:mbE b=0):parseI (rawI k b) b.id=(pj (fmI k) b,0):=by
 unfold parseI;rw [raw_ver hk];rcases hk with rfl | rfl | rfl
 · rw [if_pos rfl,raw1,pj1]
   exact OlP.parse_good (cg:=false) h
 · rw [if_neg (by decide),if_pos rfl,raw2,pj2]
   exact OlP.parse_good (cg:=true) h
 · rw [if_neg (by decide),if_neg (by decide),if_pos rfl,raw3,F3D.parse3_good h]
   exact congrArg (fun x=>(x,(0:Int))) (pj_three h).symm
theorem make_any {k:Nat} (hk:k=1\/k=2\/k=3) {w:World} {B wn wcp mn mcp:Nat} {WA MA:Option Addr} {b:Box} (ht:BxO.Tab w) (hx:StrsAt w B WA wn b.words) (hm:MsgsAt w B MA mn b.msgs) (hB:B<=w.heap.size) (hwc:wn<=wcp) (hmc:mn<=mcp) (h0:mbE b=0) :
 Calls Tryz.prog 47 #[.int .i64 (k:Nat),.agg #[.string b.id,.int .i64 b.valid,.int .i64 b.next,.int .i64 b.high,.slice WA wn wcp,.slice MA mn mcp]] w (MakeOut (rawI k b) (re (fmI k) b) w):=by
 rcases hk with rfl | rfl | rfl
 · exact make_1 ht hx hm hB hwc hmc h0
 · exact make_2 ht hx hm hB hwc hmc h0
 · exact make_3 ht hx hm hB hwc hmc h0
end Go.Proofs.YtoljpfapphoflaaGreatDoor.ImL
