/-
  SfC + SfK + SfL
-/
import Derived.Test.YtoljpfapphoflaaGreatDoorS2
import Derived.Test.YtoljpfapphoflaaGreatDoorR2
import Derived.Lib.AtoiErrMem
import Derived.Deep.RegionHeld3
import Derived.Test.YtoljpfapphoflaaGreatDoorR4
import Derived.Test.YtoljpfapphoflaaGreatDoorS1
import Derived.Test.YtoljpfapphoflaaGreatDoorShelq
import Derived.Lib.OwnBridge
set_option linter.unusedVariables false
set_option linter.unusedSimpArgs false
set_option maxHeartbeats 4000000
set_option maxRecDepth 100000
namespace Go.Proofs.YtoljpfapphoflaaGreatDoor.SfC
open Go.RowKit BxD BxKit PkKit PkA PkB PkC PkR SfM SfB SfA RkD
def Pb (base lo hi k:Nat):Prop:=k<base\/(lo<=k/\k<hi)
def byP (w:World) (base lo hi:Nat) (D:Option Addr) (n:Nat) (d:List UInt8):Prop :=
 d.length=n/\(0<n->∃ ad,D=some ad/\Pb base lo hi ad.block/\∀ j c,d[j]? = some c->w.cell? (ad.add j)=some (.int .u8 (c.toNat:Int)))
def chP (w:World) (base lo hi:Nat) (p:Addr) (c:Ch):Prop :=
 w.cell? p=some (.string c.name)/\w.cell? (fld p 1)=some (.bool c.cut)/\∃ D dc,w.cell? (fld p 2)=some (.slice D c.data.length dc)/\c.data.length<=dc/\byP w base lo hi D c.data.length c.data
def ChsP (w:World) (base lo hi:Nat) (A:Option Addr) (n:Nat) (l:List Ch):Prop :=
 l.length=n/\(0<n->∃ ad,A=some ad/\Pb base lo hi ad.block/\∀ j c,l[j]? = some c->chP w base lo hi (ad.add (j*3)) c)
def Kb (base lo hi:Nat) (w w':World):Prop:=∀ k,Pb base lo hi k->w'.heap[k]? = w.heap[k]?
theorem Kb.below {base lo hi B:Nat} {w w':World} (h:Below B w w') (h1:base<=B) (h2:hi<=B):Kb base lo hi w w':=fun k hk=>h.block k (by unfold Pb at hk; omega)
section
variable {w w' : World} {base lo hi n : Nat} {A D : Option Addr} {l : List Ch} {d : List UInt8}
theorem byP.keep (h:byP w base lo hi D n d) (hk:Kb base lo hi w w'):byP w' base lo hi D n d:=by
 refine⟨h.1,fun hn=>?_⟩;obtain⟨ad,e,hb,hc⟩:=h.2 hn;exact⟨ad,e,hb,fun j c hj=>(World.cell?_of_block (by rw [BxKit.add_block]; exact hk _ hb)).trans (hc j c hj)⟩
theorem byP.at_ (h:byP w base lo hi D n d) (h1:base<=w.heap.size) (h2:hi<=w.heap.size):BytesAt w w.heap.size D n d:=by
 refine⟨h.1,fun hn=>?_⟩;obtain⟨ad,e,hb,hc⟩:=h.2 hn;exact⟨ad,e,by unfold Pb at hb; omega,hc⟩
theorem chP.keep {p:Addr} {c:Ch} (h:chP w base lo hi p c) (hp:Pb base lo hi p.block) (hk:Kb base lo hi w w'):chP w' base lo hi p c:=by
 obtain⟨h0,h1,D,dc,h2,h3,h4⟩:=h;exact⟨(World.cell?_of_block (hk _ hp)).trans h0,(World.cell?_of_block (a:=fld p 1) (hk _ hp)).trans h1,D,dc,(World.cell?_of_block (a:=fld p 2) (hk _ hp)).trans h2,h3,h4.keep hk⟩
theorem ChsP.keep (h:ChsP w base lo hi A n l) (hk:Kb base lo hi w w'):ChsP w' base lo hi A n l:=by
 refine⟨h.1,fun hn=>?_⟩;obtain⟨ad,e,hb,hc⟩:=h.2 hn;exact⟨ad,e,hb,fun j c hj=>(hc j c hj).keep (by rw [BxKit.add_block]; exact hb) hk⟩
theorem ChsP.nil (w:World) (base lo hi:Nat) (A:Option Addr):ChsP w base lo hi A 0 []:=⟨rfl,fun h=>absurd h (Nat.lt_irrefl 0)⟩
theorem ChsP.sp (h:ChsP w base lo hi A n l) (hk:Kb base lo hi w w') {j:Nat} (hj:j<n) :
 ∃ ad x b K kd kc,A=some ad/\l[j]? = some ⟨x,b,kd⟩/\w'.cell? (ad.add (j*3))=some (.string x)/\w'.cell? ⟨(ad.add (j*3)).block,(ad.add (j*3)).off+1,none⟩ = some (.bool b) /\
  w'.cell? ⟨(ad.add (j*3)).block,(ad.add (j*3)).off+2,none⟩ = some (.slice K kd.length kc)/\kd.length<=kc/\byP w' base lo hi K kd.length kd/\Pb base lo hi (ad.add (j*3)).block:=by
 obtain⟨hl,h2⟩:=h.keep hk;obtain⟨ad,e,hb,hc⟩:=h2 (by omega);have hg:l[j]? = some (l[j]'(by omega)):=List.getElem?_eq_getElem (by omega);have hcc:=hc j _ hg;rcases hx:l[j]'(by omega) with⟨x,b,kd⟩;rw [hx] at hg hcc;obtain⟨h0,h1,D,dc,h3,h4,h5⟩:=hcc;exact⟨ad,x,b,D,kd,dc,e,hg,h0,h1,h3,h4,h5,by rw [BxKit.add_block]; exact hb⟩
end
theorem tx_len {s:ByteArray} (h:s.size<=1099511627776):(tx s).length<=6+s.size:=by
 have h1:=uv_len h;have h2:s.data.toList.length=s.size:=by rw [Array.length_toList]; rfl
 unfold tx;rw [List.length_append];omega
theorem own_none {w:World} {base n:Nat} {v:Value} {xs:List Value} (h:Ow w base v n xs):v.ownBlock≠some w.heap.size:=by
 intro e;have:=(h.lt _ e).2;omega
theorem conv_oo (w:World) (s:ByteArray) (hs:s.size<=1000000):OO w.heap.size w (Lib.bytesWorld w 5 s) s.size (.slice (some ⟨w.heap.size,0,none⟩) s.size (grownCap w s.size 0 5)) s.data.toList:=by
 have hge:=grownCap_ge w s.size 0 5;have hle:=grownCap_le_maxLen w s.size 0 5 (by unfold maxLen; omega);have hsz:(Lib.bytesCells w 5 s).size=grownCap w s.size 0 5:=by
  have:s.data.size=s.size:=rfl;simp [Lib.bytesCells];omega
 refine⟨.inr ⟨by rw [by_length,Array.length_toList]; rfl,w.heap.size,_,_,by rw [hsz],Nat.le_refl _,Lib.bytesWorld_at_new w 5 s,Nat.le_refl _,by rw [hsz]; exact hge,by rw [hsz]; exact hle, ?_⟩,Lib.bytesWorld_below w _ s,Nat.le_refl _⟩;unfold Lib.bytesCells;rw [Array.toList_append,List.take_left' (by simp)];simp [by_,Lib.byteCells]
theorem chB_true (nm:ByteArray) (d:List UInt8):chB ⟨nm,true,d⟩=nums [1]++tx nm:=by unfold chB; rw [if_pos rfl]
theorem chB_false (nm:ByteArray) (d:List UInt8):chB ⟨nm,false,d⟩=nums [0]++tx nm++tx (baL d):=by unfold chB; rw [if_neg (by simp)]
theorem app_any {n B base:Nat} {w:World} {v:Value} {l:List UInt8} {nm:ByteArray} {ct:Bool} {D:Option Addr} {dn dc:Nat} {d:List UInt8} (hO:Ow w base v n (by_ l)) (hD:BytesAt w B D dn d) (hB:B<=base) (hbs:base<=w.heap.size) (hz:nm.size<=1000000) (hdn:dn<=1000000) (hn:n<=549755813888) :
 Calls Tryz.prog 53 #[v,.agg #[.string nm,.bool ct,.slice D dn dc]] w fun e w'=>∃ v',e = .returned v'/\OM w v w' (n+(chB ⟨nm,ct,d⟩).length) v' (l++chB ⟨nm,ct,d⟩):=by
 have O0:=H_ (OM.alloc (OM.start hO) (.cells #[.string nm,.bool ct,.slice D dn dc] 81));have M0:=H_ (show RkO.Row (w.alloc (.cells #[.string nm,.bool ct,.slice D dn dc] 81)) w.heap.size 81 [.string nm,.bool ct,.slice D dn dc] from heap_alloc_new w _);have HD:=H_ (hD.below ((Below.refl base w).alloc hbs (.cells #[.string nm,.bool ct,.slice D dn dc] 81)) hB);have hP:=own_none hO;have HOB:=H_ (fun g e=>(hO.lt g e).1);have hs0:w.heap.size+1<=(w.alloc (.cells #[.string nm,.bool ct,.slice D dn dc] 81)).heap.size:=by simp
 have hdl:=hD.1;obtain⟨A,c0,rfl,hc0⟩:=hO.slice;clear hO hD;go_enter Tryz.func53,Tryz.ntmps53;go_upto_region 1 with fail
 obtain⟨P,hPe⟩ : ∃ P,P=w.heap.size:=⟨_,rfl⟩;rw [<- hPe] at M0 hs0 hP ⊢;have hPb:base<=P:=by omega
 clear hPe;generalize (World.alloc w _)=w1 at O0 M0 HD hs0 ⊢;have O1:=H_ (OM.start O0.out.own);have HM:=H_ (fun (wr:World) (g:w1.grownBy wr (Value.slice A n c0).ownBlock)=>show wr.cell? ⟨P,0,none⟩ = some (.string nm)/\wr.cell? ⟨P,1,none⟩ = some (.bool ct)/\wr.cell? ⟨P,2,none⟩ = some (.slice D dn dc) from by
  have h:=M0.out.same (g.block P hs0 (fun e=>hP e.symm));exact⟨h.cell 0,h.cell 1,h.cell 2⟩)
 obtain⟨m0,m1,m2⟩:=HM.out w1 (World.grownBy.refl _ _);cases ct with
 | true =>
  have ka:=nums_any (base:=0) (cp:=1) ((OM.alloc O1.out (.cells #[.int .i64 1] 3)).own.kept ((Below.refl _ _).drew)) (ints_one w1 1) (by simp) (fun _ ad e=>by injection e with e; subst e; exact own_none O1.out.own) (by omega);have hl1:=nums_len [1];obtain⟨q,hq⟩ : ∃ q,q=(nums [1]).length:=⟨_,rfl⟩;rw [<- hq] at ka hl1;have hq6:q<=6:=hl1;have HQ:=H_ hq;have KA:=H_ ka;clear ka hq hl1;go_upto_region 2 with fail
  go_region_held3 (fun wq=>wq.cell? ⟨P,0,none⟩ = some (.string nm)) (with_reducible first | exact m0 | exact k2 | exact k3 | go_keep) (first
   | (go_at_call 97; go_loud (
      refine KA.out.mono ?_;rintro e w2 ⟨v2,rfl,g2⟩;obtain⟨A2,c2,rfl,hc2⟩:=g2.own.slice;have O2:=H_ (OM.trans ((OM.alloc O1.out _).go ((Below.refl _ _).drew)) g2);have k2:=(HM.out w2 O2.out.fr).1;have KB:=H_ (text_om (base:=0) O2.out.own nm (by omega) (by omega));clear g2;dsimp only))
   | (go_at_call 96; go_loud (
      refine KB.out.mono ?_;rintro e w3 ⟨v3,rfl,g3⟩;obtain⟨A3,c3,rfl,hc3⟩:=g3.own.slice;have O3:=H_ (OM.trans O2.out g3);have k3:=(HM.out w3 O3.out.fr).1;clear g3;dsimp only)))
  rename_i hHeld;clear hHeld;go_wp2_with fail
  go_ret;refine⟨_,rfl, ?_⟩;have h:=OM.trans O0.out O3.out;rw [chB_true,List.length_append,<- HQ.out,<- List.append_assoc,<- Nat.add_assoc];exact h
 | false =>
  have ka:=nums_any (base:=0) (cp:=1) ((OM.alloc O1.out (.cells #[.int .i64 0] 3)).own.kept ((Below.refl _ _).drew)) (ints_one w1 0) (by simp) (fun _ ad e=>by injection e with e; subst e; exact own_none O1.out.own) (by omega);have hl1:=nums_len [0];obtain⟨q,hq⟩ : ∃ q,q=(nums [0]).length:=⟨_,rfl⟩;rw [<- hq] at ka hl1;have hq6:q<=6:=hl1;have HQ:=H_ hq;have KA:=H_ ka;clear ka hq hl1;go_upto_region 3 with fail
  go_region_held3 (fun wq=>wq.cell? ⟨P,0,none⟩ = some (.string nm)) (with_reducible first | exact m0 | exact k2 | exact k3 | go_keep) (first
   | (go_at_call 97; go_loud (
      refine KA.out.mono ?_;rintro e w2 ⟨v2,rfl,g2⟩;obtain⟨A2,c2,rfl,hc2⟩:=g2.own.slice;have O2:=H_ (OM.trans ((OM.alloc O1.out _).go ((Below.refl _ _).drew)) g2);have k2:=(HM.out w2 O2.out.fr).1;have KB:=H_ (text_om (base:=0) O2.out.own nm (by omega) (by omega));clear g2;dsimp only))
   | (go_at_call 96; go_loud (
      refine KB.out.mono ?_;rintro e w3 ⟨v3,rfl,g3⟩;obtain⟨A3,c3,rfl,hc3⟩:=g3.own.slice;have O3:=H_ (OM.trans O2.out g3);have k3:=(HM.out w3 O3.out.fr).1;clear g3;dsimp only)))
  rename_i hHeld;clear hHeld;obtain⟨_,_,n2⟩:=HM.out w3 O3.out.fr;have hb3:=O3.out.below HOB.out (show base<=w1.heap.size by omega);have hcv:=(HD.out.below hb3 hB).conv dc;have hl2:=tx_len (s:=nm) (by omega);have kb:=text_om (base:=0) O3.out.own (baL d) (by rw [ba_size]; omega) (by omega);rw [show (⟨d.toArray⟩:ByteArray)=baL d from rfl] at hcv;obtain⟨tb,htb⟩ : ∃ tb,tb=baL d:=⟨_,rfl⟩;rw [<- htb] at hcv kb;have HTB:=H_ htb;have KC:=H_ kb;clear hb3 kb htb m0 m1 m2 k2 k3
  go_wp2_with (go_at_call 96; go_loud (
       refine KC.out.mono ?_;rintro e w4 ⟨v4,rfl,g4⟩;have O4:=H_ (OM.trans O3.out g4);clear g4))
  go_ret;refine⟨_,rfl, ?_⟩;have h:=OM.trans O0.out O4.out;rw [chB_false,List.length_append,List.length_append,<- HQ.out,<- HTB.out,<- List.append_assoc,<- List.append_assoc,<- Nat.add_assoc,<- Nat.add_assoc];exact h
end Go.Proofs.YtoljpfapphoflaaGreatDoor.SfC

set_option maxRecDepth 512
namespace Go.Proofs.YtoljpfapphoflaaGreatDoor.SfK
open Go.RowKit BxD BxKit RkO RkC RkD RkR RkK RkP RkQ RkE RkS RkM RkN RkV RkW RkU RkT RkG SfC
structure Fq (base T lo hi:Nat) (w w':World):Prop where
 os:w'.os=w.os
 tape:w'.tape=w.tape
 output:w'.output=w.output
 size:w.heap.size<=w'.heap.size
 block : ∀ k,k<w.heap.size->(Pb base lo hi k\/(k≠T/\∀ cs fr,w.heap[k]?≠some (.cells cs 81 fr)))->w'.heap[k]? = w.heap[k]?
section
variable {base T lo hi : Nat} {a b c w w' : World}
theorem Fq.of (h:Below w.heap.size w w'):Fq base T lo hi w w':=⟨h.os,h.tape,h.output,h.size,fun k hk _=>h.block k hk⟩
theorem Fq.refl (w:World):Fq base T lo hi w w:=Fq.of (Below.refl _ _)
theorem Fq.trans (h:Fq base T lo hi a b) (k:Fq base T lo hi b c):Fq base T lo hi a c:=by
 refine⟨k.os.trans h.os,k.tape.trans h.tape,k.output.trans h.output,Nat.le_trans h.size k.size,fun i hi h1=>?_⟩;have e:=h.block i hi h1;refine (k.block i (Nat.lt_of_lt_of_le hi h.size) ?_).trans e;rcases h1 with h1 | ⟨h1,h2⟩
 · exact .inl h1
 · exact .inr ⟨h1,fun cs fr=>by rw [e]; exact h2 cs fr⟩
theorem Fq.kb (h:Fq base T lo hi w w') (h1:base<=w.heap.size) (h2:hi<=w.heap.size):Kb base lo hi w w':=fun k hk=>h.block k (by unfold Pb at hk; omega) (.inl hk)
theorem Fq.to (h:Fq base T lo hi w w') (h1:base<=w.heap.size):Below base w w':=⟨h.os,h.tape,h.output,h.size,fun k hk=>h.block k (by omega) (.inl (.inl hk))⟩
theorem Fq.row {P:Nat} {t:TypeId} {l:List Value} (h:Fq base T lo hi w w') (hr:Row w P t l) (hT:P≠T) (ht:t≠81):Row w' P t l:=by
 refine hr.same (h.block P hr.lt (.inr ⟨hT,fun cs fr e=>?_⟩));unfold Row at hr;rw [hr] at e;injection e with e;injection e with _ e;exact ht e
theorem Fq.shut (h:Fq base T lo hi w w'):Fq base T 0 0 w w':=⟨h.os,h.tape,h.output,h.size,fun k hk h1=>h.block k hk (h1.imp (fun h=>.inl (by unfold Pb at h; omega)) id)⟩
end
structure Rx (base T lo hi k:Nat) (w:World) (s:St):Prop where
 ok:Ok k s
 fu:FuOk s
 rk : ∃ SA sn sc FA fn fcp LA ln lc,Rk w base T s SA sn sc FA fn fcp LA ln lc/\∀ ad:Addr,LA=some ad->¬ (lo<=ad.block/\ad.block<hi)
 nT : ¬ (lo<=T/\T<hi)
 bs:base<=w.heap.size
 hs:hi<=w.heap.size
section
variable {base T lo hi k : Nat} {w w' : World} {s s' : St}
theorem Rx.lt (h:Rx base T lo hi k w s):T<w.heap.size:=by obtain⟨_,_,_,_,_,_,_,_,_,h,_⟩:=h.rk; exact h.lt
theorem Rx.low (h:Rx base T lo hi k w s):base<=T:=by obtain⟨_,_,_,_,_,_,_,_,_,h,_⟩:=h.rk; exact h.low
theorem Rx.go (h:Rx base T lo hi k w s) (hb:Below w.heap.size w w'):Rx base T lo hi k w' s:=by
 obtain⟨h1,h2,⟨SA,sn,sc,FA,fn,fcp,LA,ln,lc,h3,h4⟩,h5,h6,h7⟩:=h;exact⟨h1,h2,⟨_,_,_,_,_,_,_,_,_,h3.below hb,h4⟩,h5,Nat.le_trans h6 hb.size,Nat.le_trans h7 hb.size⟩
theorem Rx.more (h:Rx base T lo hi k w s) {m:Nat} (hm:k<=m):Rx base T lo hi m w s:=⟨h.ok.mono hm,h.fu,h.rk,h.nT,h.bs,h.hs⟩
theorem Rx.win (h:Rx base T lo hi k w s) (hb:Below w.heap.size w w'):Rx base T w.heap.size w'.heap.size k w' s:=by
 have hl:=h.lt;obtain⟨h1,h2,⟨SA,sn,sc,FA,fn,fcp,LA,ln,lc,h3,h4⟩,h5,h6,h7⟩:=h;exact⟨h1,h2,⟨_,_,_,_,_,_,_,_,_,h3.below hb,fun ad e=>by have:=(h3.loose.blk e).2.1; omega⟩,by omega,Nat.le_trans h6 hb.size,Nat.le_refl _⟩
theorem Rx.shut (h:Rx base T lo hi k w s):Rx base T 0 0 k w s:=by
 obtain⟨h1,h2,⟨SA,sn,sc,FA,fn,fcp,LA,ln,lc,h3,h4⟩,h5,h6,h7⟩:=h;exact⟨h1,h2,⟨_,_,_,_,_,_,_,_,_,h3,fun ad e=>by omega⟩,by omega,h6,Nat.zero_le _⟩
theorem Rx.head (h:Rx base T lo hi k w s) : ∃ l,Row w T 102 l:=by obtain⟨_,_,_,_,_,_,_,_,_,h,_⟩:=h.rk; exact⟨_,h.head⟩
end
def RxP (base T lo hi k:Nat) (w:World) (s':St) (e0:Ending) (e:Ending) (w':World):Prop:=e=e0/\Rx base T lo hi k w' s'/\Fq base T lo hi w w'
section
variable {base T lo hi k : Nat} {w w' : World} {s s' : St}
theorem RxP.post {SA FA LA:Option Addr} {sn sc fn fcp ln lc:Nat} {e0 e:Ending} (h:Rk w base T s SA sn sc FA fn fcp LA ln lc) (hL : ∀ ad:Addr,LA=some ad->¬ (lo<=ad.block/\ad.block<hi)) (nT : ¬ (lo<=T/\T<hi)) (bs:base<=w.heap.size) (hs:hi<=w.heap.size) (ok:Ok k s') (fu:FuOk s') (p:RkPost w base T LA s' e0 e w'):RxP base T lo hi k w s' e0 e w':=by
 obtain⟨he,LA',⟨SA',sn',sc',FA',fn',fcp',ln',lc',hr⟩,hf,hn⟩:=p;refine⟨he,⟨ok,fu,⟨_,_,_,_,_,_,_,_,_,hr,fun ad e=>?_⟩,nT,Nat.le_trans bs hf.size,Nat.le_trans hs hf.size⟩,hf.os,hf.tape,hf.output,hf.size,fun i hi h1=>?_⟩
 · rcases hn ad e with h1 | ⟨ad0,h1,h2⟩
   · omega
   · rw [h2]; exact hL ad0 h1
 · rcases h1 with h1 | ⟨h1,h2⟩
   · refine hf.block i hi ?_ fun ad e=>?_
     · have:=h.low; unfold Pb at h1; omega
     · have:=h.lb ad e; have:=hL ad e; unfold Pb at h1; omega
   · refine hf.block i hi h1 fun ad e e2=>?_
     obtain⟨_,_,cs,h3⟩:=h.loose.blk e;rw [<- e2] at h3;exact h2 cs _ h3
theorem writeX (h:Rx base T lo hi k w s) (h6:k<=900) {D:Option Addr} {dn dc B:Nat} (n:ByteArray) {d:List UInt8} (hD:PkKit.BytesAt w B D dn d) (hB:B<=w.heap.size) :
 Calls Tryz.prog 37 #[ptr T,.string n,.slice D dn dc] w (RxP base T lo hi (k+1) w (wrS s n d) (.returned (.int .i64 (wrE s n d)))):=by
 obtain⟨h1,h2,⟨SA,sn,sc,FA,fn,fcp,LA,ln,lc,h3,h4⟩,h5,h6',h7⟩:=h;exact (Write_any h3 h1 h6 hD hB h6' h2).mono fun _ _ p=>RxP.post h3 h4 h5 h6' h7 (h1.wr n d) (h2.wr n d) p
theorem cutX (h:Rx base T lo hi k w s) (h6:k<=900) (n:ByteArray):Calls Tryz.prog 84 #[ptr T,.string n] w (RxP base T lo hi (k+1) w (ctS s n) (.returned (.int .i64 (ctE s n)))):=by
 obtain⟨h1,h2,⟨SA,sn,sc,FA,fn,fcp,LA,ln,lc,h3,h4⟩,h5,h6',h7⟩:=h;exact (Cut_any h3 h1 h6 h6' h2).mono fun _ _ p=>RxP.post h3 h4 h5 h6' h7 (h1.ct n) (h2.ct n) p
theorem flushX (h:Rx base T lo hi k w s):Calls Tryz.prog 38 #[ptr T] w (RxP base T lo hi k w (flS s) (.returned (.int .i64 (flE s)))):=by
 obtain⟨h1,h2,⟨SA,sn,sc,FA,fn,fcp,LA,ln,lc,h3,h4⟩,h5,h6',h7⟩:=h;exact (flush_any h3).mono fun _ _ p=>RxP.post h3 h4 h5 h6' h7 h1.fl h2.fl p
theorem readX (h:Rx base T lo hi k w s) (h6:k<=1000) (n:ByteArray):Calls Tryz.prog 56 #[ptr T,.string n] w (RdPost (rdF s n) w):=by
 obtain⟨h1,h2,⟨SA,sn,sc,FA,fn,fcp,LA,ln,lc,h3,h4⟩,h5,h6',h7⟩:=h;exact read_any h3 h1 h6 n
theorem namesX (h:Rx base T lo hi k w s) (h6:k<=1000):Calls Tryz.prog 50 #[ptr T] w (NmPost (s.files.map (·.1)) w):=by
 obtain⟨h1,h2,⟨SA,sn,sc,FA,fn,fcp,LA,ln,lc,h3,h4⟩,h5,h6',h7⟩:=h;exact names_any h3 h1 h6
theorem sizeX (h:Rx base T lo hi k w s) (h6:k<=1000):Calls Tryz.prog 75 #[ptr T] w fun e w'=>e = .returned (.int .i64 (costs s.files:Nat))/\Below w.heap.size w w':=by
 obtain⟨h1,h2,⟨SA,sn,sc,FA,fn,fcp,LA,ln,lc,h3,h4⟩,h5,h6',h7⟩:=h;exact size_any h3 h1 h6
theorem roomX (h:Rx base T lo hi k w s) (h6:k<=1000):Calls Tryz.prog 76 #[ptr T] w fun e w'=>e = .returned (.int .i64 ((s.room:Int)-(costs s.files:Nat)))/\Below w.heap.size w w':=by
 obtain⟨h1,h2,⟨SA,sn,sc,FA,fn,fcp,LA,ln,lc,h3,h4⟩,h5,h6',h7⟩:=h;exact room_any h3 h1 h6
theorem downX (h:Rx base T lo hi k w s):Calls Tryz.prog 55 #[ptr T] w fun e w'=>e = .returned (.bool s.down)/\w=w':=by
 obtain⟨h1,h2,⟨SA,sn,sc,FA,fn,fcp,LA,ln,lc,h3,h4⟩,h5,h6',h7⟩:=h;exact down_any h3
theorem newX (w:World) (base:Nat) (room:Int) (hb:base<=w.heap.size):Calls Tryz.prog 26 #[.int .i64 room] w fun e w'=>e = .returned (ptr w.heap.size)/\Rx base w.heap.size 0 0 0 w' (newS room)/\Below w.heap.size w w' :=
 (new_any w base room hb).mono fun _ _ ⟨h1,h2,h3⟩=>⟨h1,⟨Ok.new room,FuOk.new room,⟨_,_,_,_,_,_,_,_,_,h2,fun ad e=>by cases e⟩,by omega,Nat.le_trans hb h3.size,Nat.zero_le _⟩,h3⟩
end
end Go.Proofs.YtoljpfapphoflaaGreatDoor.SfK

set_option maxHeartbeats 4000000
set_option maxRecDepth 100000
namespace Go.Proofs.YtoljpfapphoflaaGreatDoor.SfL
open Go.RowKit RkE RkP BxD BxKit RkO RkC RkD RkR RkK RkM RkN SfC SfD SfK
theorem has_any {w:World} {base n c:Nat} {A:Option Addr} {l:List ByteArray} (h:w.ownsRow base 9 1 (.slice A n c) n (l.map Value.string)) (hn:n<=100000) (x:ByteArray) :
 Calls Tryz.prog 117 #[.slice A n c,.string x] w fun e w'=>e = .returned (.bool (Lib.containsS l x))/\w'=w:=by
 have hl:=h.1;rw [List.length_map] at hl;rcases h.2 with⟨hv,rfl⟩ | ⟨g,cap,cur,hv,hb,hg,hnc,hm,hs,ht⟩
 · obtain rfl:l=[]:=List.eq_nil_of_length_eq_zero (by omega)
   exact (Tryz.slices_Contains_string_empty A c x w).mono fun e w' ⟨h1,h2⟩=>⟨h1,h2⟩
 · injection hv with e1 e2 e3
   subst e1;have:=Tryz.slices_Contains_string g 0 n c l x w (by omega) (by omega) (fun j hj=>by
    have hx:l[j]? = some (l.getD j ByteArray.empty):=by rw [List.getD_eq_getElem?_getD,List.getElem?_eq_getElem hj]; rfl
    have:=h.cells (g:=g) rfl j (.string (l.getD j ByteArray.empty)) (by rw [List.getElem?_map,hx]; rfl);rw [add_new] at this;rw [Nat.zero_add];exact this)
   refine this.mono fun e w' ⟨h1,h2⟩=>⟨?_,h2⟩;rw [h1,List.take_of_length_le (by omega)]
theorem hit_mem {n:ByteArray} {l:List F} (hs:SrtF l):hitF n l=decide (n∈l.map (·.1)):=by
 cases h:hitF n l with
 | true =>
  obtain⟨d,hv⟩:=(hit_iff ordS).1 h;exact (decide_eq_true (List.mem_map.2 ⟨_,List.mem_of_getElem? hv,rfl⟩)).symm
 | false =>
  refine (decide_eq_false fun hm=>?_).symm;obtain⟨f,hf,rfl⟩:=List.mem_map.1 hm;obtain⟨j,hj⟩:=List.mem_iff_getElem?.1 hf;have hlt:=(List.getElem?_eq_some_iff.1 hj).1;have e:lo cmpS f.1 l=j:=by
   refine lo_eq cmpS f.1 l j (by omega) (fun i p hi hp=>?_) fun p hp=>?_
   · obtain⟨h1,e1⟩:=List.getElem?_eq_some_iff.1 hp
     obtain⟨h2,e2⟩:=List.getElem?_eq_some_iff.1 hj;have:=(List.pairwise_iff_getElem.1 hs) i j h1 h2 hi;rw [e1,e2] at this;exact this
   · rw [hj] at hp
     obtain rfl:=Option.some.inj hp;rw [ordS.refl];decide
  have:hitF f.1 l=true:=by
   unfold hitF hit;rw [e,hj];simp [ordS.refl]
  rw [h] at this;cases this
theorem has_hit {n:ByteArray} {l:List F} (hs:SrtF l):Lib.containsS (l.map (·.1)) n=hitF n l:=by
 rw [hit_mem hs];cases h:Lib.containsS (l.map (·.1)) n with
 | true=>exact (decide_eq_true ((Lib.containsS_iff _ _).1 h)).symm
 | false=>exact (decide_eq_false fun hm=>by rw [(Lib.containsS_iff _ _).2 hm] at h; cases h).symm
section
variable {base T lo hi k : Nat} {w : World} {s : St}
theorem do_any (h:Rx base T lo hi k w s) (h6:k<=900) {nm:ByteArray} {ct:Bool} {D:Option Addr} {dn dc:Nat} {d:List UInt8} (hD:byP w base lo hi D dn d) :
 Calls Tryz.prog 83 #[ptr T,.agg #[.string nm,.bool ct,.slice D dn dc]] w (RxP base T lo hi (k+1) w (doS s ⟨nm,ct,d⟩) (.returned (.int .i64 (doE s ⟨nm,ct,d⟩)))):=by
 have R1:=H_ (h.go (below_alloc w (.cells #[.string nm,.bool ct,.slice D dn dc] 81)));have HF1:=H_ (Fq.of (base:=base) (T:=T) (lo:=lo) (hi:=hi) (below_alloc w (.cells #[.string nm,.bool ct,.slice D dn dc] 81)));have HD1:=H_ (hD.keep (Kb.below (below_alloc w (.cells #[.string nm,.bool ct,.slice D dn dc] 81)) h.bs h.hs));have M0:=H_ (show Row (w.alloc (.cells #[.string nm,.bool ct,.slice D dn dc] 81)) w.heap.size 81 [.string nm,.bool ct,.slice D dn dc] from heap_alloc_new w _);have hsrt:=h.ok.files.srt;have hfl:=h.ok.files.len;clear h hD;unfold ptr;go_enter Tryz.func83,Tryz.ntmps83;go_upto_region 1 with fail
 obtain⟨P,hP⟩ : ∃ P,P=w.heap.size:=⟨_,rfl⟩;rw [<- hP] at M0 ⊢;clear hP;generalize (World.alloc w _)=w1 at R1 HF1 HD1 M0 ⊢;have m0:=M0.out.cell 0;have m1:=M0.out.cell 1;have m2:=M0.out.cell 2;cases ct with
 | false =>
  have e1:doE s ⟨nm,false,d⟩=wrE s nm d:=by unfold doE; rw [if_neg (by simp)]
  have e2:doS s ⟨nm,false,d⟩=wrS s nm d:=by unfold doS; rw [if_neg (by simp)]
  have KW:=H_ (writeX (dc:=dc) R1.out h6 nm (HD1.out.at_ R1.out.bs R1.out.hs) lr_);rw [<- e1,<- e2] at KW;unfold ptr at KW;clear e1 e2;go_wp2_with (go_at_call 37; go_loud (refine KW.out.mono ?_; rintro e w2 ⟨rfl,h2,h3⟩; have R2:=H_ h2; have F2:=H_ (HF1.out.trans h3); clear h2 h3))
  go_ret;exact⟨rfl,R2.out,F2.out⟩
 | true =>
  have KN:=H_ (namesX (R1.out.go ((Below.refl _ _).drew)) (by omega));unfold NmPost ptr at KN;have hnl:(s.files.map (·.1)).length=s.files.length:=List.length_map _;rw [hnl] at KN;have HC:=H_ (has_hit (n:=nm) hsrt);clear hnl;go_upto_region 3 with fail
  go_region_held3 (fun wq=>wq.cell? ⟨P,0,none⟩ = some (.string nm)) (with_reducible first | exact m0 | exact n0 | go_keep) (first
   | (go_at_call 50; go_loud (
      refine KN.out.mono ?_;rintro e w2 ⟨A2,c2,rfl,h7,h8⟩;have HB2:=H_ (show Below w1.heap.size w1 w2 from (Below.drew (Below.refl w1.heap.size w1)).trans h8);have n0:=(M0.out.below HB2.out M0.out.lt).cell 0;have KC:=H_ (has_any h7 (by omega) nm);rw [HC.out] at KC;clear h7 h8;dsimp only))
   | (go_at_call 117; go_loud (
      refine KC.out.mono ?_;rintro e w3 ⟨rfl,rfl⟩;dsimp only)))
  rename_i hHeld;clear hHeld;have R2:=H_ (R1.out.go HB2.out);have HF2:=H_ (HF1.out.trans (Fq.of HB2.out));have KX:=H_ (cutX R2.out h6 nm);cases hh:hitF nm s.files with
  | false =>
   have e1:doE s ⟨nm,true,d⟩=0:=by unfold doE; rw [if_pos rfl,if_neg (by rw [hh]; decide)]
   have e2:doS s ⟨nm,true,d⟩=s:=by unfold doS; rw [if_pos rfl,if_neg (by rw [hh]; decide)]
   have E1:=H_ e1;have E2:=H_ e2;clear e1 e2 hh;go_wp2_with fail
   go_ret;exact⟨by rw [E1.out]; rfl,by rw [E2.out]; exact R2.out.more (Nat.le_succ k),HF2.out⟩
  | true =>
   have e1:doE s ⟨nm,true,d⟩=ctE s nm:=by unfold doE; rw [if_pos rfl,if_pos hh]
   have e2:doS s ⟨nm,true,d⟩=ctS s nm:=by unfold doS; rw [if_pos rfl,if_pos hh]
   rw [<- e1,<- e2] at KX;unfold ptr at KX;clear e1 e2 hh;go_wp2_with (go_at_call 84; go_loud (refine KX.out.mono ?_; rintro e w4 ⟨rfl,h2,h3⟩; have R4:=H_ h2; have F4:=H_ (HF2.out.trans h3); clear h2 h3))
   go_ret;exact⟨rfl,R4.out,F4.out⟩
theorem fin_any (h:Rx base T lo hi k w s) {n cp:Nat} {A:Option Addr} {l:List Ch} (h6:k+n<=899) (hL:ChsP w base lo hi A n l) :
 Calls Tryz.prog 39 #[ptr T,.slice A n cp] w (RxP base T lo hi (k+n+1) w (finS s l) (.returned (.int .i64 (finE s l)))):=by
 have R0:=H_ h;have HL:=H_ hL;have HLN:=H_ hL.1;clear h hL;unfold ptr;go_enter Tryz.func39,Tryz.ntmps39;go_wp2_with fail
 go_loopw [12] (fun s12 wr=>∃ j:Nat,j<=n/\s12 = .int .i64 j/\Hid (Rx base T lo hi (k+j) wr (dosS s (l.take j)))/\Hid (dosE s (l.take j)=0)/\Hid (Fq base T lo hi w wr)) (fun s12 _=>n-(intOf s12).toNat)
 case atStart=>exact⟨0,Nat.zero_le _,rfl,R0,rfl,Fq.refl w⟩
 case round =>
  obtain⟨j,hj,rfl,HR,HE,HF⟩:=hrel;by_cases hlt:j<n
  · obtain⟨ad,x,b,K,kd,kc,rfl,hg,d0,d1,d2,hle,hby,_⟩:=HL.out.sp (HF.out.kb R0.out.bs R0.out.hs) (j:=j) hlt
    obtain⟨hl1,hg1⟩:=List.getElem?_eq_some_iff.1 hg;have ht:l.take (j+1)=l.take j++[⟨x,b,kd⟩]:=by rw [List.take_succ_eq_append_getElem hl1,hg1]
    obtain⟨q1,q2⟩:=dosS_snoc (c:=⟨x,b,kd⟩) HE.out;rw [<- ht] at q1 q2;have KD:=H_ (do_any (dc:=kc) (nm:=x) (ct:=b) (HR.out.go (below_alloc wr (.cells #[.string x,.bool b,.slice K kd.length kc] 81))) (by omega) (hby.keep (Kb.below (below_alloc wr (.cells #[.string x,.bool b,.slice K kd.length kc] 81)) HR.out.bs HR.out.hs)));rw [<- q1,<- q2] at KD;obtain⟨E,hE⟩ : ∃ E,E=dosE s (l.take (j+1)):=⟨_,rfl⟩;obtain⟨S2,hS2⟩ : ∃ S2,S2=dosS s (l.take (j+1)):=⟨_,rfl⟩;rw [<- hE,<- hS2] at KD;have HE2:=H_ hE;have HS2:=H_ hS2;obtain⟨m,hm⟩ : ∃ m,m=kd.length:=⟨_,rfl⟩;rw [<- hm] at d2 KD;unfold ptr at KD;clear hg hl1 hg1 ht q1 q2 hE hS2 hm hle hby;by_cases hz:E=0
    · subst hz
      go_wp2_with (go_at_call 83; go_loud (refine KD.out.mono ?_; rintro e w2 ⟨rfl,h2,h3⟩; have R2:=H_ h2; have F2:=H_ (HF.out.trans ((Fq.of (below_alloc wr _)).trans h3)); clear h2 h3))
      go_roundw
      case measure=>simp [intOf]; omega
      case rel=>exact⟨j+1,by omega,by go_num,by rw [<- HS2.out]; exact R2,HE2.out.symm,F2⟩
    · have hzi:(E != 0)=true:=by simpa using hz
      have hst:=dosS_stop (m:=l.drop (j+1)) (s:=s) (l:=l.take (j+1)) (by rw [<- HE2.out]; exact hz);rw [List.take_append_drop,<- HE2.out,<- HS2.out] at hst;have HP:=H_ (show E=finE s l/\S2=finS s l by
       unfold finE finS;rw [hst.1,if_pos hz,if_pos hz,hst.2];exact⟨rfl,rfl⟩)
      clear hz hst;go_wp2_with (go_at_call 83; go_loud (refine KD.out.mono ?_; rintro e w2 ⟨rfl,h2,h3⟩; have R2:=H_ h2; have F2:=H_ (HF.out.trans ((Fq.of (below_alloc wr _)).trans h3)); clear h2 h3))
      go_ret;rw [<- HP.out.1,<- HP.out.2];exact⟨rfl,R2.out.more (by omega),F2.out⟩
  · obtain rfl:n=j:=by omega
    have he:=HE.out;have hr:=HR.out;rw [List.take_of_length_le (by rw [HLN.out]; exact Nat.le_refl _)] at he hr;have hfe:finE s l=endE (dosS s l):=by unfold finE; rw [he]; rfl
    have hfs:finS s l=endS (dosS s l):=by unfold finS; rw [he]; rfl
    obtain⟨S1,hS1⟩ : ∃ S1,S1=dosS s l:=⟨_,rfl⟩;rw [<- hS1] at hr hfe hfs;have R1:=H_ hr;have HFE:=H_ hfe;have HFS:=H_ hfs;have K1:=H_ (flushX R1.out);obtain⟨S2,hS2⟩ : ∃ S2,S2=flS S1:=⟨_,rfl⟩;obtain⟨e1,he1⟩ : ∃ e1,e1=flE S1:=⟨_,rfl⟩;rw [<- hS2,<- he1] at K1;have HS2:=H_ hS2;have HE1:=H_ he1;unfold ptr at K1;clear he hr hfe hfs hS1 hS2 he1 HR HE;by_cases hz1:e1=0
    · subst hz1
      go_upto_region 11 with (go_at_call 38; go_loud (refine K1.out.mono ?_; rintro e w2 ⟨rfl,h2,h3⟩; have R2:=H_ h2; have F2:=H_ (HF.out.trans h3); clear h2 h3))
      have K2:=H_ (cutX R2.out (by omega) nR);obtain⟨S3,hS3⟩ : ∃ S3,S3=ctS S2 nR:=⟨_,rfl⟩;obtain⟨e2,he2⟩ : ∃ e2,e2=ctE S2 nR:=⟨_,rfl⟩;rw [<- hS3,<- he2] at K2;have HS3:=H_ hS3;have HE2:=H_ he2;unfold ptr nR at K2;clear hS3 he2;by_cases hz2:e2=0
      · subst hz2
        have HP:=H_ (show finE s l=flE S3/\finS s l=flS S3 by
         rw [HFE.out,HFS.out];unfold endE endS;rw [<- HE1.out,<- HS2.out,<- HE2.out,<- HS3.out];exact⟨rfl,rfl⟩)
        go_upto_region 14 with (go_at_call 84; go_loud (refine K2.out.mono ?_; rintro e w3 ⟨rfl,h2,h3⟩; have R3:=H_ h2; have F3:=H_ (F2.out.trans h3); clear h2 h3))
        have K3:=H_ (flushX R3.out);unfold ptr at K3;go_wp2_with (go_at_call 38; go_loud (refine K3.out.mono ?_; rintro e w4 ⟨rfl,h2,h3⟩; have R4:=H_ h2; have F4:=H_ (F3.out.trans h3); clear h2 h3))
        go_ret;rw [HP.out.1,HP.out.2];exact⟨rfl,R4.out,F4.out⟩
      · have hzi:(e2 != 0)=true:=by simpa using hz2
        have HP:=H_ (show finE s l=e2/\finS s l=S3 by
         rw [HFE.out,HFS.out];unfold endE endS;rw [<- HE1.out,<- HS2.out,<- HE2.out,<- HS3.out];simp [hz2])
        clear hz2;go_wp2_with (go_at_call 84; go_loud (refine K2.out.mono ?_; rintro e w3 ⟨rfl,h2,h3⟩; have R3:=H_ h2; have F3:=H_ (F2.out.trans h3); clear h2 h3))
        go_ret;rw [HP.out.1,HP.out.2];exact⟨rfl,R3.out,F3.out⟩
    · have hzi:(e1 != 0)=true:=by simpa using hz1
      have HP:=H_ (show finE s l=e1/\finS s l=S2 by
       rw [HFE.out,HFS.out];unfold endE endS;rw [<- HE1.out,<- HS2.out,if_pos hz1,if_pos hz1];exact⟨rfl,rfl⟩)
      clear hz1;go_wp2_with (go_at_call 38; go_loud (refine K1.out.mono ?_; rintro e w2 ⟨rfl,h2,h3⟩; have R2:=H_ h2; have F2:=H_ (HF.out.trans h3); clear h2 h3))
      go_ret;rw [HP.out.1,HP.out.2];exact⟨rfl,R2.out.more (by omega),F2.out⟩
end
end Go.Proofs.YtoljpfapphoflaaGreatDoor.SfL
