/-
  HoldGone: a box that was taken away is none; other boxes are as they were: the walk.
-/
import Derived.Test.YtoljpfapphoflaaGreatDoorH4
import Derived.Test.YtoljpfapphoflaaGreatDoorJF
import Derived.Test.YtoljpfapphoflaaGreatDoorK7
import Derived.Test.YtoljpfapphoflaaGreatDoorS7
set_option linter.unusedVariables false
set_option linter.unusedSimpArgs false
set_option maxHeartbeats 8000000
set_option maxRecDepth 100000
namespace Go.Proofs.YtoljpfapphoflaaGreatDoor.HlG
open Go.RowKit BxD BxKit BxR BxB BxH BxS BxX RwKit ImL HoF HoA HoK HoU
open RwD (mb_iff head_parts)
open RkM (ptr)
open RkP (below_alloc)
open SfK (Fq)
open RpD (bytesR)
open ImD (re)
theorem form_k (x:Int) : ∃ k:Nat,(k=1\/k=2\/k=3)/\wrap64 (1+wrap64 ((IntKind.u64.wrap x).tmod 3))=(k:Int):=by
  have h0:=wrap_u64_nonneg x;generalize IntKind.u64.wrap x=y at h0;have h1:0<=y % 3:=Int.emod_nonneg _ (by decide);have h2:y % 3<3:=Int.emod_lt_of_pos _ (by decide);rw [Int.tmod_eq_emod_of_nonneg h0];refine⟨(1+y % 3).toNat,by omega, ?_⟩;unfold wrap64;omega
abbrev bxC (b:Box) (WA:Option Addr) (wn wc:Nat) (MA:Option Addr) (mn mc:Nat):Array Value:=#[.string b.id,.int .i64 b.valid,.int .i64 b.next,.int .i64 b.high,.slice WA wn wc,.slice MA mn mc]
structure Tw (w wr:World) (bc cc:Array Value):Prop where
  bel:Below w.heap.size w wr
  bb:wr.heap[w.heap.size]? = some (.cells bc 25 (0,0))
  cb:wr.heap[w.heap.size+1]? = some (.cells cc 25 (0,0))
theorem Tw.go {w wr w2:World} {bc cc:Array Value} (h:Tw w wr bc cc) (hb:Below wr.heap.size wr w2):Tw w w2 bc cc :=
  ⟨h.bel.trans (hb.mono h.bel.size),(hb.block _ (gs_ h.bb).1).trans h.bb,(hb.block _ (gs_ h.cb).1).trans h.cb⟩
theorem Tw.start (w:World) (bc cc:Array Value):Tw w ((w.alloc (.cells bc 25)).alloc (.cells cc 25)) bc cc:=by
  have e:(w.alloc (.cells bc 25)).heap.size=w.heap.size+1:=by simp
  refine⟨((Below.refl _ _).alloc lr_ _).alloc (by simp) _,(heap_alloc_old _ _ (by simp)).trans (heap_alloc_new w _), ?_⟩;have:=heap_alloc_new (w.alloc (.cells bc 25)) (.cells cc 25)
  rwa [e] at this
theorem Tw.lt {w wr:World} {bc cc:Array Value} (h:Tw w wr bc cc):w.heap.size+1<wr.heap.size:=(gs_ h.cb).1
theorem Tw.to {w wr w2:World} {bc cc:Array Value} {T:Nat} (h:Tw w wr bc cc) (hb:Below T wr w2) (hT:w.heap.size+2<=T):Tw w w2 bc cc :=
  ⟨h.bel.trans (hb.mono (by omega)),(hb.block _ (by omega)).trans h.bb,(hb.block _ (by omega)).trans h.cb⟩
theorem few_drop {D:List RkD.F} {b c:ByteArray} (hs:RkD.SrtF D) (h:Few D [b,c]):Few (SfT.dall D (chGone b)) [c]:=by
  intro n d hn;rw [lk_gone hs] at hn;split at hn
  · cases hn
  split at hn
  · cases hn
  split at hn
  · cases hn
  rename_i _ h2 h3;obtain⟨a,ha,hz,hc⟩:=h n d hn;simp only [List.mem_cons,List.not_mem_nil,or_false] at ha;rcases ha with rfl | rfl
  · rcases hc with⟨e,_⟩ | ⟨e,_⟩
    · exact absurd e h3
    · exact absurd e h2
  · exact⟨a,List.mem_singleton.2 rfl,hz,hc⟩
theorem names_two {D:List RkD.F} {c:ByteArray} {k:Nat} {b0 b:Box} {l:List RwD.Row} (hK:SfV.Fk D) (h:Few D [c]) (hk:Kept D c k b0 l b):0<D.length/\(((D.map (·.1)).map (·.data.toList)).filter fun x=>!SfQ.rq x).length=2:=by
  have h1:(fI c,rawI k b0)∈D:=(SfT.look_iff hK.srt).1 hk.img;have h2:(fR c,bytesR l)∈D:=(SfT.look_iff hK.srt).1 hk.row;have h3:=(few_costs hK.srt h (by simp)).2
  have e:(((D.map (·.1)).map (·.data.toList)).filter fun x=>!SfQ.rq x)=((D.map (·.1)).map (·.data.toList)):=by
    rw [List.filter_eq_self];intro x hx;obtain⟨n,hn,rfl⟩:=List.mem_map.1 hx
    have hq:SfQ.rq n.data.toList=false:=by
      unfold SfQ.rq;rw [beq_eq_false_iff_ne];intro e;refine SfT.look_none.1 hK.noR ?_
      have:n=⟨#[61,114,101,100,111]⟩:=by
        cases n with
        | mk a=>cases a with
          | mk t=>simp only at e; rw [e]
      rw [this] at hn;exact hn
    rw [hq]; rfl
  rw [e,List.length_map,List.length_map]
  match D,h1,h2,h3 with
  | [],h1,_,_=>cases h1
  | [x],h1,h2,_ =>
    rw [List.mem_singleton] at h1 h2;exact absurd (congrArg Prod.fst (h1.trans h2.symm)) (ir _ _)
  | [x,y],_,_,_=>exact⟨by simp,rfl⟩
  | x::y::z::r,_,_,h3=>simp at h3
theorem walk {b c:Box} {WA MA VA NA:Option Addr} {wn wcp mn mcp vn vcp nn ncp:Nat} {x:Int} {w:World} (ht:BxO.Tab w) (h1:StrsAt w w.heap.size WA wn b.words) (h2:MsgsAt w w.heap.size MA mn b.msgs) (hwc:wn<=wcp) (hmc:mn<=mcp) (z1:b.id.size<=140737488355328)
    (h3:StrsAt w w.heap.size VA vn c.words) (h4:MsgsAt w w.heap.size NA nn c.msgs) (hvc:vn<=vcp) (hnc:nn<=ncp) (z2:c.id.size<=140737488355328) :
    Calls Tryz.prog 4 #[.int .i64 x,.agg #[.string b.id,.int .i64 b.valid,.int .i64 b.next,.int .i64 b.high,.slice WA wn wcp,.slice MA mn mcp],.agg #[.string c.id,.int .i64 c.valid,.int .i64 c.next,.int .i64 c.high,.slice VA vn vcp,.slice NA nn ncp]] w fun e w'=>e = .returned (.bool true)/\Below w.heap.size w w':=by
  have HAW:=H_ (fun (wr:World) (hb:Below w.heap.size w wr)=>HoW.awake (ht.below hb lr_));have HS:=H_ (Tw.start w (bxC b WA wn wcp MA mn mcp) (bxC c VA vn vcp NA nn ncp));unfold bxC at HS;have HX:=H_ (And.intro h1 (And.intro h2 (And.intro h3 h4)));have HC:=H_ (And.intro hwc (And.intro hmc (And.intro hvc hnc)));have HT:=H_ ht;obtain⟨nA,hnA⟩ : ∃ nA,nA=hv b.id b.words b.msgs:=⟨_,rfl⟩;obtain⟨nC,hnC⟩ : ∃ nC,nC=hv c.id c.words c.msgs:=⟨_,rfl⟩;obtain⟨mb,hmb⟩ : ∃ mb,mb=mbE b:=⟨_,rfl⟩;obtain⟨mc,hmc'⟩ : ∃ mc,mc=mbE c:=⟨_,rfl⟩;have hA1:nA=1\/nA=0:=by rw [hnA]; rcases hv_or b.id b.words b.msgs with h | h; exact .inl h; exact .inr h.1
  have hC1:nC=1\/nC=0:=by rw [hnC]; rcases hv_or c.id c.words c.msgs with h | h; exact .inl h; exact .inr h.1
  go_enter Tryz.func4,Tryz.ntmps4;go_upto_region 1 with fail
  generalize (World.alloc (World.alloc w _) _)=w0 at HS ⊢
  have CB:=H_ (fun (wr:World) (g:Below w0.heap.size w0 wr)=>show wr.cell? ⟨w.heap.size,0,none⟩ = some (.string b.id)/\wr.cell? ⟨w.heap.size,1,none⟩ = some (.int .i64 b.valid)/\wr.cell? ⟨w.heap.size,2,none⟩ = some (.int .i64 b.next)/\wr.cell? ⟨w.heap.size,3,none⟩ = some (.int .i64 b.high)/\wr.cell? ⟨w.heap.size,4,none⟩ = some (.slice WA wn wcp)/\wr.cell? ⟨w.heap.size,5,none⟩ = some (.slice MA mn mcp) /\
      wr.cell? ⟨w.heap.size+1,0,none⟩ = some (.string c.id)/\wr.cell? ⟨w.heap.size+1,1,none⟩ = some (.int .i64 c.valid)/\wr.cell? ⟨w.heap.size+1,2,none⟩ = some (.int .i64 c.next)/\wr.cell? ⟨w.heap.size+1,3,none⟩ = some (.int .i64 c.high)/\wr.cell? ⟨w.heap.size+1,4,none⟩ = some (.slice VA vn vcp)/\wr.cell? ⟨w.heap.size+1,5,none⟩ = some (.slice NA nn ncp) from by
    have s:=HS.out.go g;obtain⟨b0,b1,b2,b3,b4,b5,_⟩:=RwKit.six_at s.bb;obtain⟨m0,m1,m2,m3,m4,m5,_⟩:=RwKit.six_at s.cb;exact⟨b0,b1,b2,b3,b4,b5,m0,m1,m2,m3,m4,m5⟩)
  have KHb:=H_ (fun (wr:World) (g:Below w0.heap.size w0 wr)=>(heavy_any (bid:=b.id) (bv:=b.valid) (bn:=b.next) (bh:=b.high) (wc:=wcp) (mc:=mcp) (StrsAt.below HX.out.1 (HS.out.go g).bel lr_) (MsgsAt.below HX.out.2.1 (HS.out.go g).bel lr_) (HS.out.go g).bel.size (HS.out.go g).bel.size z1).mono fun e w' (h:e = .returned (.int .i64 (hv b.id b.words b.msgs))/\Below wr.heap.size wr w')=>show e = .returned (.int .i64 nA)/\Below w0.heap.size w0 w' from ⟨hnA ▸ h.1,g.trans (h.2.mono g.size)⟩);have KHc:=H_ (fun (wr:World) (g:Below w0.heap.size w0 wr)=>(heavy_any (bid:=c.id) (bv:=c.valid) (bn:=c.next) (bh:=c.high) (wc:=vcp) (mc:=ncp) (StrsAt.below HX.out.2.2.1 (HS.out.go g).bel lr_) (MsgsAt.below HX.out.2.2.2 (HS.out.go g).bel lr_) (HS.out.go g).bel.size (HS.out.go g).bel.size z2).mono fun e w' (h:e = .returned (.int .i64 (hv c.id c.words c.msgs))/\Below wr.heap.size wr w')=>show e = .returned (.int .i64 nC)/\Below w0.heap.size w0 w' from ⟨hnC ▸ h.1,g.trans (h.2.mono g.size)⟩);have KMb:=H_ (fun (wr:World) (g:Below w0.heap.size w0 wr)=>(ref_may (bid:=b.id) (bv:=b.valid) (bn:=b.next) (bh:=b.high) (wc:=wcp) (mc:=mcp) (StrsAt.below HX.out.1 (HS.out.go g).bel lr_) (MsgsAt.below HX.out.2.1 (HS.out.go g).bel lr_) (HS.out.go g).bel.size HC.out.1).mono fun e w' (h:e = .returned (.int .i64 (mbE b))/\Below wr.heap.size wr w')=>show e = .returned (.int .i64 mb)/\Below w0.heap.size w0 w' from ⟨hmb ▸ h.1,g.trans (h.2.mono g.size)⟩);have KMc:=H_ (fun (wr:World) (g:Below w0.heap.size w0 wr)=>(ref_may (bid:=c.id) (bv:=c.valid) (bn:=c.next) (bh:=c.high) (wc:=vcp) (mc:=ncp) (StrsAt.below HX.out.2.2.1 (HS.out.go g).bel lr_) (MsgsAt.below HX.out.2.2.2 (HS.out.go g).bel lr_) (HS.out.go g).bel.size HC.out.2.2.1).mono fun e w' (h:e = .returned (.int .i64 (mbE c))/\Below wr.heap.size wr w')=>show e = .returned (.int .i64 mc)/\Below w0.heap.size w0 w' from ⟨hmc' ▸ h.1,g.trans (h.2.mono g.size)⟩);have HMB:=H_ hmb;have HMC:=H_ hmc';have HBv:=H_ (Below.refl w0.heap.size w0);clear ht h1 h2 h3 h4 hwc hmc hvc hnc hnA hnC hmb hmc';go_cut [40] (fun s40 wx=>∃ q:Bool,s40 = .bool q/\(q=false->mb=0/\mc=0/\b.id≠c.id)/\Hid (Below w0.heap.size w0 wx))
  case first =>
    obtain⟨c0,c1,c2,c3,c4,c5,d0,d1,d2,d3,d4,d5⟩:=CB.out w0 (Below.refl _ _);have hfin : ∀ (q:Bool),(q=false->(mb=0/\mc=0/\b.id≠c.id))->True:=fun _ _=>trivial;clear hfin;rcases hA1 with rfl | rfl <;> rcases hC1 with rfl | rfl
    case inr.inr =>
      refine wp_region_noPanic ?_;refine wp_region_held_drew (S:=fun wr=>wr.cell? ⟨w.heap.size,0,none⟩ = some (.string b.id)/\wr.cell? ⟨w.heap.size,1,none⟩ = some (.int .i64 b.valid)/\wr.cell? ⟨w.heap.size,2,none⟩ = some (.int .i64 b.next)/\wr.cell? ⟨w.heap.size,3,none⟩ = some (.int .i64 b.high)/\wr.cell? ⟨w.heap.size,4,none⟩ = some (.slice WA wn wcp)/\wr.cell? ⟨w.heap.size,5,none⟩ = some (.slice MA mn mcp)/\wr.cell? ⟨w.heap.size+1,0,none⟩ = some (.string c.id)/\wr.cell? ⟨w.heap.size+1,1,none⟩ = some (.int .i64 c.valid)/\wr.cell? ⟨w.heap.size+1,2,none⟩ = some (.int .i64 c.next)/\wr.cell? ⟨w.heap.size+1,3,none⟩ = some (.int .i64 c.high)/\wr.cell? ⟨w.heap.size+1,4,none⟩ = some (.slice VA vn vcp)/\wr.cell? ⟨w.heap.size+1,5,none⟩ = some (.slice NA nn ncp)) (by kernel_rfl) ?_ (fun hHeld=>?_)
      · exact CB.out _ (Below.refl _ _).drew
      have HBv:=H_ (Below.drew (Below.refl w0.heap.size w0));refine wpAnyH_take (i:=0) (v:=?_) rfl (by kernel_rfl) (by kernel_rfl) (by kernel_rfl) (fun _ _ _ h=>h) (Or.inl ⟨by rfl, ?_⟩) hHeld ?_
      rotate_left
      · intro wq hSq; (try dsimp only at hSq); go_simp; try with_reducible rfl
      try simp only [Act.put,List.setIfInBounds_toArray,List.set_cons_zero,List.set_cons_succ,List.getElem_toArray,List.getElem_cons_zero,List.getElem_cons_succ]
      refine wpAnyH_take (i:=2) (v:=?_) rfl (by kernel_rfl) (by kernel_rfl) (by kernel_rfl) (fun _ _ _ h=>h) (Or.inl ⟨by rfl, ?_⟩) hHeld ?_
      rotate_left
      · intro wq hSq; (try dsimp only at hSq); go_simp; try with_reducible rfl
      try simp only [Act.put,List.setIfInBounds_toArray,List.set_cons_zero,List.set_cons_succ,List.getElem_toArray,List.getElem_cons_zero,List.getElem_cons_succ]
      refine wpAnyH_ready (rs:=[1]) (by kernel_rfl) (by simp) ?_;refine AllReadyH.cons rfl (fun K hK=>?_) AllReadyH.nil;go_simp; try with_reducible rfl
      go_at_call 7
      refine (KHb.out _ HBv.out).mono ?_;rintro e w1 ⟨rfl,hb⟩;have HBv:=H_ hb;clear hb;dsimp only;refine hK.out _ _ ?_ (fun hHeld=>?_)
      · exact CB.out _ HBv.out
      clear hK K
      try simp only [Act.put,List.setIfInBounds_toArray,List.set_cons_zero,List.set_cons_succ,List.getElem_toArray,List.getElem_cons_zero,List.getElem_cons_succ]
      refine wpAnyH_ready (rs:=[3]) (by kernel_rfl) (by simp) ?_;refine AllReadyH.cons rfl (fun K hK=>?_) AllReadyH.nil;go_simp; try with_reducible rfl
      go_at_call 7
      refine (KHc.out _ HBv.out).mono ?_;rintro e w1 ⟨rfl,hb⟩;have HBv:=H_ hb;clear hb;dsimp only;refine hK.out _ _ ?_ (fun hHeld=>?_)
      · exact CB.out _ HBv.out
      clear hK K
      try simp only [Act.put,List.setIfInBounds_toArray,List.set_cons_zero,List.set_cons_succ,List.getElem_toArray,List.getElem_cons_zero,List.getElem_cons_succ]
      refine wpAnyH_take (i:=4) (v:=?_) rfl (by kernel_rfl) (by kernel_rfl) (by kernel_rfl) (fun _ _ _ h=>h) (Or.inl ⟨by rfl, ?_⟩) hHeld ?_
      rotate_left
      · intro wq hSq; (try dsimp only at hSq); go_simp; try with_reducible rfl
      try simp only [Act.put,List.setIfInBounds_toArray,List.set_cons_zero,List.set_cons_succ,List.getElem_toArray,List.getElem_cons_zero,List.getElem_cons_succ]
      try simp only [show IntKind.i64.wrap 2=(2:Int) by decide,show IntKind.i64.wrap 1=(1:Int) by decide,show IntKind.i64.wrap 0=(0:Int) by decide]
      refine wpAnyH_take (i:=5) (v:=?_) rfl (by kernel_rfl) (by kernel_rfl) (by kernel_rfl) (fun _ _ _ h=>h) (Or.inl ⟨by rfl, ?_⟩) hHeld ?_
      rotate_left
      · intro wq hSq; (try dsimp only at hSq); go_simp; try with_reducible rfl
      try simp only [Act.put,List.setIfInBounds_toArray,List.set_cons_zero,List.set_cons_succ,List.getElem_toArray,List.getElem_cons_zero,List.getElem_cons_succ]
      refine wpAnyH_take (i:=6) (v:=?_) rfl (by kernel_rfl) (by kernel_rfl) (by kernel_rfl) (fun _ _ _ h=>h) (Or.inl ⟨by rfl, ?_⟩) hHeld ?_
      rotate_left
      · intro wq hSq; (try dsimp only at hSq); go_simp; try with_reducible rfl
      try simp only [Act.put,List.setIfInBounds_toArray,List.set_cons_zero,List.set_cons_succ,List.getElem_toArray,List.getElem_cons_zero,List.getElem_cons_succ]
      refine wpAnyH_take (i:=7) (v:=?_) rfl (by kernel_rfl) (by kernel_rfl) (by kernel_rfl) (fun _ _ _ h=>h) (Or.inl ⟨by rfl, ?_⟩) hHeld ?_
      rotate_left
      · intro wq hSq; (try dsimp only at hSq); go_simp; try with_reducible rfl
      try simp only [Act.put,List.setIfInBounds_toArray,List.set_cons_zero,List.set_cons_succ,List.getElem_toArray,List.getElem_cons_zero,List.getElem_cons_succ]
      refine wpAnyH_ready (rs:=[8]) (by kernel_rfl) (by simp) ?_;refine AllReadyH.cons rfl (fun K hK=>?_) AllReadyH.nil;go_simp; try with_reducible rfl
      go_at_call 9
      refine (KMb.out _ HBv.out).mono ?_;rintro e w1 ⟨rfl,hb⟩;have HBv:=H_ hb;clear hb;dsimp only;refine hK.out _ _ ?_ (fun hHeld=>?_)
      · exact CB.out _ HBv.out
      clear hK K
      try simp only [Act.put,List.setIfInBounds_toArray,List.set_cons_zero,List.set_cons_succ,List.getElem_toArray,List.getElem_cons_zero,List.getElem_cons_succ]
      by_cases hb0:mb=0
      case neg =>
        have hbn:(mb != 0)=true:=by simpa using hb0
        clear hb0;refine wpAnyH_take (i:=9) (v:=?_) rfl (by kernel_rfl) (by kernel_rfl) (by kernel_rfl) (fun _ _ _ h=>h) (Or.inl ⟨by rfl, ?_⟩) hHeld ?_
        rotate_left
        · intro wq hSq; (try dsimp only at hSq); go_simp; try with_reducible rfl
        try simp only [Act.put,List.setIfInBounds_toArray,List.set_cons_zero,List.set_cons_succ,List.getElem_toArray,List.getElem_cons_zero,List.getElem_cons_succ]
        refine wpAnyH_take (i:=10) (v:=?_) rfl (by kernel_rfl) (by kernel_rfl) (by kernel_rfl) (fun _ _ _ h=>h) (Or.inl ⟨by rfl, ?_⟩) hHeld ?_
        rotate_left
        · intro wq hSq; (try dsimp only at hSq); go_simp; try with_reducible rfl
        try simp only [Act.put,List.setIfInBounds_toArray,List.set_cons_zero,List.set_cons_succ,List.getElem_toArray,List.getElem_cons_zero,List.getElem_cons_succ]
        refine wpAnyH_take (i:=11) (v:=?_) rfl (by kernel_rfl) (by kernel_rfl) (by kernel_rfl) (fun _ _ _ h=>h) (Or.inl ⟨by rfl, ?_⟩) hHeld ?_
        rotate_left
        · intro wq hSq; (try dsimp only at hSq); go_simp; try with_reducible rfl
        try simp only [Act.put,List.setIfInBounds_toArray,List.set_cons_zero,List.set_cons_succ,List.getElem_toArray,List.getElem_cons_zero,List.getElem_cons_succ]
        refine wpAnyH_take (i:=12) (v:=undef) rfl (by kernel_rfl) (by kernel_rfl) (by kernel_rfl) (fun _ _ _ h=>h) (Or.inr ⟨by rfl,rfl⟩) hHeld ?_
        try simp only [Act.put,List.setIfInBounds_toArray,List.set_cons_zero,List.set_cons_succ,List.getElem_toArray,List.getElem_cons_zero,List.getElem_cons_succ]
        refine wpAnyH_take (i:=13) (v:=undef) rfl (by kernel_rfl) (by kernel_rfl) (by kernel_rfl) (fun _ _ _ h=>h) (Or.inr ⟨by rfl,rfl⟩) hHeld ?_
        try simp only [Act.put,List.setIfInBounds_toArray,List.set_cons_zero,List.set_cons_succ,List.getElem_toArray,List.getElem_cons_zero,List.getElem_cons_succ]
        refine wpAnyH_take (i:=14) (v:=undef) rfl (by kernel_rfl) (by kernel_rfl) (by kernel_rfl) (fun _ _ _ h=>h) (Or.inr ⟨by rfl,rfl⟩) hHeld ?_
        try simp only [Act.put,List.setIfInBounds_toArray,List.set_cons_zero,List.set_cons_succ,List.getElem_toArray,List.getElem_cons_zero,List.getElem_cons_succ]
        refine wpAnyH_take (i:=15) (v:=?_) rfl (by kernel_rfl) (by kernel_rfl) (by kernel_rfl) (fun _ _ _ h=>h) (Or.inl ⟨by rfl, ?_⟩) hHeld ?_
        rotate_left
        · intro wq hSq; (try dsimp only at hSq); go_simp; try with_reducible rfl
        try simp only [Act.put,List.setIfInBounds_toArray,List.set_cons_zero,List.set_cons_succ,List.getElem_toArray,List.getElem_cons_zero,List.getElem_cons_succ]
        refine wpAnyH_take (i:=16) (v:=?_) rfl (by kernel_rfl) (by kernel_rfl) (by kernel_rfl) (fun _ _ _ h=>h) (Or.inl ⟨by rfl, ?_⟩) hHeld ?_
        rotate_left
        · intro wq hSq; (try dsimp only at hSq); go_simp; try with_reducible rfl
        try simp only [Act.put,List.setIfInBounds_toArray,List.set_cons_zero,List.set_cons_succ,List.getElem_toArray,List.getElem_cons_zero,List.getElem_cons_succ]
        refine wpAnyH_take (i:=17) (v:=undef) rfl (by kernel_rfl) (by kernel_rfl) (by kernel_rfl) (fun _ _ _ h=>h) (Or.inr ⟨by rfl,rfl⟩) hHeld ?_
        try simp only [Act.put,List.setIfInBounds_toArray,List.set_cons_zero,List.set_cons_succ,List.getElem_toArray,List.getElem_cons_zero,List.getElem_cons_succ]
        refine wpAnyH_take (i:=18) (v:=undef) rfl (by kernel_rfl) (by kernel_rfl) (by kernel_rfl) (fun _ _ _ h=>h) (Or.inr ⟨by rfl,rfl⟩) hHeld ?_
        try simp only [Act.put,List.setIfInBounds_toArray,List.set_cons_zero,List.set_cons_succ,List.getElem_toArray,List.getElem_cons_zero,List.getElem_cons_succ]
        refine wpAnyH_take (i:=19) (v:=undef) rfl (by kernel_rfl) (by kernel_rfl) (by kernel_rfl) (fun _ _ _ h=>h) (Or.inr ⟨by rfl,rfl⟩) hHeld ?_
        try simp only [Act.put,List.setIfInBounds_toArray,List.set_cons_zero,List.set_cons_succ,List.getElem_toArray,List.getElem_cons_zero,List.getElem_cons_succ]
        refine wpAnyH_take (i:=20) (v:=undef) rfl (by kernel_rfl) (by kernel_rfl) (by kernel_rfl) (fun _ _ _ h=>h) (Or.inr ⟨by rfl,rfl⟩) hHeld ?_
        try simp only [Act.put,List.setIfInBounds_toArray,List.set_cons_zero,List.set_cons_succ,List.getElem_toArray,List.getElem_cons_zero,List.getElem_cons_succ]
        refine wpAnyH_take (i:=21) (v:=undef) rfl (by kernel_rfl) (by kernel_rfl) (by kernel_rfl) (fun _ _ _ h=>h) (Or.inr ⟨by rfl,rfl⟩) hHeld ?_
        try simp only [Act.put,List.setIfInBounds_toArray,List.set_cons_zero,List.set_cons_succ,List.getElem_toArray,List.getElem_cons_zero,List.getElem_cons_succ]
        refine wpAnyH_take (i:=22) (v:=?_) rfl (by kernel_rfl) (by kernel_rfl) (by kernel_rfl) (fun _ _ _ h=>h) (Or.inl ⟨by rfl, ?_⟩) hHeld ?_
        rotate_left
        · intro wq hSq; (try dsimp only at hSq); go_simp; try with_reducible rfl
        try simp only [Act.put,List.setIfInBounds_toArray,List.set_cons_zero,List.set_cons_succ,List.getElem_toArray,List.getElem_cons_zero,List.getElem_cons_succ]
        refine wpAnyH_done (by kernel_rfl) ?_ _;refine NoPanic.normal ?_;go_wp2_with fail
        go_meet;exact⟨true,rfl,(fun h=>by cases h),HBv⟩
      subst hb0;refine wpAnyH_take (i:=9) (v:=?_) rfl (by kernel_rfl) (by kernel_rfl) (by kernel_rfl) (fun _ _ _ h=>h) (Or.inl ⟨by rfl, ?_⟩) hHeld ?_
      rotate_left
      · intro wq hSq; (try dsimp only at hSq); go_simp; try with_reducible rfl
      try simp only [Act.put,List.setIfInBounds_toArray,List.set_cons_zero,List.set_cons_succ,List.getElem_toArray,List.getElem_cons_zero,List.getElem_cons_succ]
      refine wpAnyH_take (i:=10) (v:=?_) rfl (by kernel_rfl) (by kernel_rfl) (by kernel_rfl) (fun _ _ _ h=>h) (Or.inl ⟨by rfl, ?_⟩) hHeld ?_
      rotate_left
      · intro wq hSq; (try dsimp only at hSq); go_simp; try with_reducible rfl
      try simp only [Act.put,List.setIfInBounds_toArray,List.set_cons_zero,List.set_cons_succ,List.getElem_toArray,List.getElem_cons_zero,List.getElem_cons_succ]
      refine wpAnyH_take (i:=11) (v:=?_) rfl (by kernel_rfl) (by kernel_rfl) (by kernel_rfl) (fun _ _ _ h=>h) (Or.inl ⟨by rfl, ?_⟩) hHeld ?_
      rotate_left
      · intro wq hSq; (try dsimp only at hSq); go_simp; try with_reducible rfl
      try simp only [Act.put,List.setIfInBounds_toArray,List.set_cons_zero,List.set_cons_succ,List.getElem_toArray,List.getElem_cons_zero,List.getElem_cons_succ]
      refine wpAnyH_take (i:=12) (v:=?_) rfl (by kernel_rfl) (by kernel_rfl) (by kernel_rfl) (fun _ _ _ h=>h) (Or.inl ⟨by rfl, ?_⟩) hHeld ?_
      rotate_left
      · intro wq hSq; (try dsimp only at hSq); go_simp; try with_reducible rfl
      try simp only [Act.put,List.setIfInBounds_toArray,List.set_cons_zero,List.set_cons_succ,List.getElem_toArray,List.getElem_cons_zero,List.getElem_cons_succ]
      refine wpAnyH_ready (rs:=[13]) (by kernel_rfl) (by simp) ?_;refine AllReadyH.cons rfl (fun K hK=>?_) AllReadyH.nil;go_simp; try with_reducible rfl
      go_at_call 9
      refine (KMc.out _ HBv.out).mono ?_;rintro e w1 ⟨rfl,hb⟩;have HBv:=H_ hb;clear hb;dsimp only;refine hK.out _ _ ?_ (fun hHeld=>?_)
      · exact CB.out _ HBv.out
      clear hK K
      try simp only [Act.put,List.setIfInBounds_toArray,List.set_cons_zero,List.set_cons_succ,List.getElem_toArray,List.getElem_cons_zero,List.getElem_cons_succ]
      by_cases hc0:mc=0
      case neg =>
        have hcn:(mc != 0)=true:=by simpa using hc0
        clear hc0;refine wpAnyH_take (i:=14) (v:=?_) rfl (by kernel_rfl) (by kernel_rfl) (by kernel_rfl) (fun _ _ _ h=>h) (Or.inl ⟨by rfl, ?_⟩) hHeld ?_
        rotate_left
        · intro wq hSq; (try dsimp only at hSq); go_simp; try with_reducible rfl
        try simp only [Act.put,List.setIfInBounds_toArray,List.set_cons_zero,List.set_cons_succ,List.getElem_toArray,List.getElem_cons_zero,List.getElem_cons_succ]
        refine wpAnyH_take (i:=15) (v:=?_) rfl (by kernel_rfl) (by kernel_rfl) (by kernel_rfl) (fun _ _ _ h=>h) (Or.inl ⟨by rfl, ?_⟩) hHeld ?_
        rotate_left
        · intro wq hSq; (try dsimp only at hSq); go_simp; try with_reducible rfl
        try simp only [Act.put,List.setIfInBounds_toArray,List.set_cons_zero,List.set_cons_succ,List.getElem_toArray,List.getElem_cons_zero,List.getElem_cons_succ]
        refine wpAnyH_take (i:=16) (v:=?_) rfl (by kernel_rfl) (by kernel_rfl) (by kernel_rfl) (fun _ _ _ h=>h) (Or.inl ⟨by rfl, ?_⟩) hHeld ?_
        rotate_left
        · intro wq hSq; (try dsimp only at hSq); go_simp; try with_reducible rfl
        try simp only [Act.put,List.setIfInBounds_toArray,List.set_cons_zero,List.set_cons_succ,List.getElem_toArray,List.getElem_cons_zero,List.getElem_cons_succ]
        refine wpAnyH_take (i:=17) (v:=undef) rfl (by kernel_rfl) (by kernel_rfl) (by kernel_rfl) (fun _ _ _ h=>h) (Or.inr ⟨by rfl,rfl⟩) hHeld ?_
        try simp only [Act.put,List.setIfInBounds_toArray,List.set_cons_zero,List.set_cons_succ,List.getElem_toArray,List.getElem_cons_zero,List.getElem_cons_succ]
        refine wpAnyH_take (i:=18) (v:=undef) rfl (by kernel_rfl) (by kernel_rfl) (by kernel_rfl) (fun _ _ _ h=>h) (Or.inr ⟨by rfl,rfl⟩) hHeld ?_
        try simp only [Act.put,List.setIfInBounds_toArray,List.set_cons_zero,List.set_cons_succ,List.getElem_toArray,List.getElem_cons_zero,List.getElem_cons_succ]
        refine wpAnyH_take (i:=19) (v:=undef) rfl (by kernel_rfl) (by kernel_rfl) (by kernel_rfl) (fun _ _ _ h=>h) (Or.inr ⟨by rfl,rfl⟩) hHeld ?_
        try simp only [Act.put,List.setIfInBounds_toArray,List.set_cons_zero,List.set_cons_succ,List.getElem_toArray,List.getElem_cons_zero,List.getElem_cons_succ]
        refine wpAnyH_take (i:=20) (v:=undef) rfl (by kernel_rfl) (by kernel_rfl) (by kernel_rfl) (fun _ _ _ h=>h) (Or.inr ⟨by rfl,rfl⟩) hHeld ?_
        try simp only [Act.put,List.setIfInBounds_toArray,List.set_cons_zero,List.set_cons_succ,List.getElem_toArray,List.getElem_cons_zero,List.getElem_cons_succ]
        refine wpAnyH_take (i:=21) (v:=undef) rfl (by kernel_rfl) (by kernel_rfl) (by kernel_rfl) (fun _ _ _ h=>h) (Or.inr ⟨by rfl,rfl⟩) hHeld ?_
        try simp only [Act.put,List.setIfInBounds_toArray,List.set_cons_zero,List.set_cons_succ,List.getElem_toArray,List.getElem_cons_zero,List.getElem_cons_succ]
        refine wpAnyH_take (i:=22) (v:=?_) rfl (by kernel_rfl) (by kernel_rfl) (by kernel_rfl) (fun _ _ _ h=>h) (Or.inl ⟨by rfl, ?_⟩) hHeld ?_
        rotate_left
        · intro wq hSq; (try dsimp only at hSq); go_simp; try with_reducible rfl
        try simp only [Act.put,List.setIfInBounds_toArray,List.set_cons_zero,List.set_cons_succ,List.getElem_toArray,List.getElem_cons_zero,List.getElem_cons_succ]
        refine wpAnyH_done (by kernel_rfl) ?_ _;refine NoPanic.normal ?_;go_wp2_with fail
        go_meet;exact⟨true,rfl,(fun h=>by cases h),HBv⟩
      subst hc0;refine wpAnyH_take (i:=14) (v:=?_) rfl (by kernel_rfl) (by kernel_rfl) (by kernel_rfl) (fun _ _ _ h=>h) (Or.inl ⟨by rfl, ?_⟩) hHeld ?_
      rotate_left
      · intro wq hSq; (try dsimp only at hSq); go_simp; try with_reducible rfl
      try simp only [Act.put,List.setIfInBounds_toArray,List.set_cons_zero,List.set_cons_succ,List.getElem_toArray,List.getElem_cons_zero,List.getElem_cons_succ]
      refine wpAnyH_take (i:=15) (v:=?_) rfl (by kernel_rfl) (by kernel_rfl) (by kernel_rfl) (fun _ _ _ h=>h) (Or.inl ⟨by rfl, ?_⟩) hHeld ?_
      rotate_left
      · intro wq hSq; (try dsimp only at hSq); go_simp; try with_reducible rfl
      try simp only [Act.put,List.setIfInBounds_toArray,List.set_cons_zero,List.set_cons_succ,List.getElem_toArray,List.getElem_cons_zero,List.getElem_cons_succ]
      refine wpAnyH_take (i:=16) (v:=?_) rfl (by kernel_rfl) (by kernel_rfl) (by kernel_rfl) (fun _ _ _ h=>h) (Or.inl ⟨by rfl, ?_⟩) hHeld ?_
      rotate_left
      · intro wq hSq; (try dsimp only at hSq); go_simp; try with_reducible rfl
      try simp only [Act.put,List.setIfInBounds_toArray,List.set_cons_zero,List.set_cons_succ,List.getElem_toArray,List.getElem_cons_zero,List.getElem_cons_succ]
      refine wpAnyH_take (i:=17) (v:=?_) rfl (by kernel_rfl) (by kernel_rfl) (by kernel_rfl) (fun _ _ _ h=>h) (Or.inl ⟨by rfl, ?_⟩) hHeld ?_
      rotate_left
      · intro wq hSq; (try dsimp only at hSq); go_simp; try with_reducible rfl
      try simp only [Act.put,List.setIfInBounds_toArray,List.set_cons_zero,List.set_cons_succ,List.getElem_toArray,List.getElem_cons_zero,List.getElem_cons_succ]
      refine wpAnyH_take (i:=18) (v:=?_) rfl (by kernel_rfl) (by kernel_rfl) (by kernel_rfl) (fun _ _ _ h=>h) (Or.inl ⟨by rfl, ?_⟩) hHeld ?_
      rotate_left
      · intro wq hSq; (try dsimp only at hSq); go_simp; try with_reducible rfl
      try simp only [Act.put,List.setIfInBounds_toArray,List.set_cons_zero,List.set_cons_succ,List.getElem_toArray,List.getElem_cons_zero,List.getElem_cons_succ]
      refine wpAnyH_take (i:=19) (v:=?_) rfl (by kernel_rfl) (by kernel_rfl) (by kernel_rfl) (fun _ _ _ h=>h) (Or.inl ⟨by rfl, ?_⟩) hHeld ?_
      rotate_left
      · intro wq hSq; (try dsimp only at hSq); go_simp; try with_reducible rfl
      try simp only [Act.put,List.setIfInBounds_toArray,List.set_cons_zero,List.set_cons_succ,List.getElem_toArray,List.getElem_cons_zero,List.getElem_cons_succ]
      refine wpAnyH_take (i:=20) (v:=?_) rfl (by kernel_rfl) (by kernel_rfl) (by kernel_rfl) (fun _ _ _ h=>h) (Or.inl ⟨by rfl, ?_⟩) hHeld ?_
      rotate_left
      · intro wq hSq; (try dsimp only at hSq); go_simp; try with_reducible rfl
      try simp only [Act.put,List.setIfInBounds_toArray,List.set_cons_zero,List.set_cons_succ,List.getElem_toArray,List.getElem_cons_zero,List.getElem_cons_succ]
      refine wpAnyH_take (i:=21) (v:=?_) rfl (by kernel_rfl) (by kernel_rfl) (by kernel_rfl) (fun _ _ _ h=>h) (Or.inl ⟨by rfl, ?_⟩) hHeld ?_
      rotate_left
      · intro wq hSq; (try dsimp only at hSq); go_simp; try with_reducible rfl
      try simp only [Act.put,List.setIfInBounds_toArray,List.set_cons_zero,List.set_cons_succ,List.getElem_toArray,List.getElem_cons_zero,List.getElem_cons_succ]
      refine wpAnyH_take (i:=22) (v:=?_) rfl (by kernel_rfl) (by kernel_rfl) (by kernel_rfl) (fun _ _ _ h=>h) (Or.inl ⟨by rfl, ?_⟩) hHeld ?_
      rotate_left
      · intro wq hSq; (try dsimp only at hSq); go_simp; try with_reducible rfl
      try simp only [Act.put,List.setIfInBounds_toArray,List.set_cons_zero,List.set_cons_succ,List.getElem_toArray,List.getElem_cons_zero,List.getElem_cons_succ]
      refine wpAnyH_done (by kernel_rfl) ?_ _;refine NoPanic.normal ?_;go_wp2_with fail
      go_meet;exact⟨_,rfl,(fun h=>⟨trivial,trivial,fun e=>by rw [e] at h; simp at h⟩),HBv⟩
    all_goals
      refine wp_region_noPanic ?_;refine wp_region_held_drew (S:=fun wr=>wr.cell? ⟨w.heap.size,0,none⟩ = some (.string b.id)/\wr.cell? ⟨w.heap.size,1,none⟩ = some (.int .i64 b.valid)/\wr.cell? ⟨w.heap.size,2,none⟩ = some (.int .i64 b.next)/\wr.cell? ⟨w.heap.size,3,none⟩ = some (.int .i64 b.high)/\wr.cell? ⟨w.heap.size,4,none⟩ = some (.slice WA wn wcp)/\wr.cell? ⟨w.heap.size,5,none⟩ = some (.slice MA mn mcp)/\wr.cell? ⟨w.heap.size+1,0,none⟩ = some (.string c.id)/\wr.cell? ⟨w.heap.size+1,1,none⟩ = some (.int .i64 c.valid)/\wr.cell? ⟨w.heap.size+1,2,none⟩ = some (.int .i64 c.next)/\wr.cell? ⟨w.heap.size+1,3,none⟩ = some (.int .i64 c.high)/\wr.cell? ⟨w.heap.size+1,4,none⟩ = some (.slice VA vn vcp)/\wr.cell? ⟨w.heap.size+1,5,none⟩ = some (.slice NA nn ncp)) (by kernel_rfl) ?_ (fun hHeld=>?_)
      · exact CB.out _ (Below.refl _ _).drew
      have HBv:=H_ (Below.drew (Below.refl w0.heap.size w0));refine wpAnyH_take (i:=0) (v:=?_) rfl (by kernel_rfl) (by kernel_rfl) (by kernel_rfl) (fun _ _ _ h=>h) (Or.inl ⟨by rfl, ?_⟩) hHeld ?_
      rotate_left
      · intro wq hSq; (try dsimp only at hSq); go_simp; try with_reducible rfl
      try simp only [Act.put,List.setIfInBounds_toArray,List.set_cons_zero,List.set_cons_succ,List.getElem_toArray,List.getElem_cons_zero,List.getElem_cons_succ]
      refine wpAnyH_take (i:=2) (v:=?_) rfl (by kernel_rfl) (by kernel_rfl) (by kernel_rfl) (fun _ _ _ h=>h) (Or.inl ⟨by rfl, ?_⟩) hHeld ?_
      rotate_left
      · intro wq hSq; (try dsimp only at hSq); go_simp; try with_reducible rfl
      try simp only [Act.put,List.setIfInBounds_toArray,List.set_cons_zero,List.set_cons_succ,List.getElem_toArray,List.getElem_cons_zero,List.getElem_cons_succ]
      refine wpAnyH_ready (rs:=[1]) (by kernel_rfl) (by simp) ?_;refine AllReadyH.cons rfl (fun K hK=>?_) AllReadyH.nil;go_simp; try with_reducible rfl
      go_at_call 7
      refine (KHb.out _ HBv.out).mono ?_;rintro e w1 ⟨rfl,hb⟩;have HBv:=H_ hb;clear hb;dsimp only;refine hK.out _ _ ?_ (fun hHeld=>?_)
      · exact CB.out _ HBv.out
      clear hK K
      try simp only [Act.put,List.setIfInBounds_toArray,List.set_cons_zero,List.set_cons_succ,List.getElem_toArray,List.getElem_cons_zero,List.getElem_cons_succ]
      refine wpAnyH_ready (rs:=[3]) (by kernel_rfl) (by simp) ?_;refine AllReadyH.cons rfl (fun K hK=>?_) AllReadyH.nil;go_simp; try with_reducible rfl
      go_at_call 7
      refine (KHc.out _ HBv.out).mono ?_;rintro e w1 ⟨rfl,hb⟩;have HBv:=H_ hb;clear hb;dsimp only;refine hK.out _ _ ?_ (fun hHeld=>?_)
      · exact CB.out _ HBv.out
      clear hK K
      try simp only [Act.put,List.setIfInBounds_toArray,List.set_cons_zero,List.set_cons_succ,List.getElem_toArray,List.getElem_cons_zero,List.getElem_cons_succ]
      refine wpAnyH_take (i:=4) (v:=?_) rfl (by kernel_rfl) (by kernel_rfl) (by kernel_rfl) (fun _ _ _ h=>h) (Or.inl ⟨by rfl, ?_⟩) hHeld ?_
      rotate_left
      · intro wq hSq; (try dsimp only at hSq); go_simp; try with_reducible rfl
      try simp only [Act.put,List.setIfInBounds_toArray,List.set_cons_zero,List.set_cons_succ,List.getElem_toArray,List.getElem_cons_zero,List.getElem_cons_succ]
      try simp only [show IntKind.i64.wrap 2=(2:Int) by decide,show IntKind.i64.wrap 1=(1:Int) by decide,show IntKind.i64.wrap 0=(0:Int) by decide]
      refine wpAnyH_take (i:=5) (v:=?_) rfl (by kernel_rfl) (by kernel_rfl) (by kernel_rfl) (fun _ _ _ h=>h) (Or.inl ⟨by rfl, ?_⟩) hHeld ?_
      rotate_left
      · intro wq hSq; (try dsimp only at hSq); go_simp; try with_reducible rfl
      try simp only [Act.put,List.setIfInBounds_toArray,List.set_cons_zero,List.set_cons_succ,List.getElem_toArray,List.getElem_cons_zero,List.getElem_cons_succ]
      refine wpAnyH_take (i:=6) (v:=?_) rfl (by kernel_rfl) (by kernel_rfl) (by kernel_rfl) (fun _ _ _ h=>h) (Or.inl ⟨by rfl, ?_⟩) hHeld ?_
      rotate_left
      · intro wq hSq; (try dsimp only at hSq); go_simp; try with_reducible rfl
      try simp only [Act.put,List.setIfInBounds_toArray,List.set_cons_zero,List.set_cons_succ,List.getElem_toArray,List.getElem_cons_zero,List.getElem_cons_succ]
      refine wpAnyH_take (i:=7) (v:=undef) rfl (by kernel_rfl) (by kernel_rfl) (by kernel_rfl) (fun _ _ _ h=>h) (Or.inr ⟨by rfl,rfl⟩) hHeld ?_
      try simp only [Act.put,List.setIfInBounds_toArray,List.set_cons_zero,List.set_cons_succ,List.getElem_toArray,List.getElem_cons_zero,List.getElem_cons_succ]
      refine wpAnyH_take (i:=8) (v:=undef) rfl (by kernel_rfl) (by kernel_rfl) (by kernel_rfl) (fun _ _ _ h=>h) (Or.inr ⟨by rfl,rfl⟩) hHeld ?_
      try simp only [Act.put,List.setIfInBounds_toArray,List.set_cons_zero,List.set_cons_succ,List.getElem_toArray,List.getElem_cons_zero,List.getElem_cons_succ]
      refine wpAnyH_take (i:=9) (v:=undef) rfl (by kernel_rfl) (by kernel_rfl) (by kernel_rfl) (fun _ _ _ h=>h) (Or.inr ⟨by rfl,rfl⟩) hHeld ?_
      try simp only [Act.put,List.setIfInBounds_toArray,List.set_cons_zero,List.set_cons_succ,List.getElem_toArray,List.getElem_cons_zero,List.getElem_cons_succ]
      refine wpAnyH_take (i:=10) (v:=?_) rfl (by kernel_rfl) (by kernel_rfl) (by kernel_rfl) (fun _ _ _ h=>h) (Or.inl ⟨by rfl, ?_⟩) hHeld ?_
      rotate_left
      · intro wq hSq; (try dsimp only at hSq); go_simp; try with_reducible rfl
      try simp only [Act.put,List.setIfInBounds_toArray,List.set_cons_zero,List.set_cons_succ,List.getElem_toArray,List.getElem_cons_zero,List.getElem_cons_succ]
      refine wpAnyH_take (i:=11) (v:=?_) rfl (by kernel_rfl) (by kernel_rfl) (by kernel_rfl) (fun _ _ _ h=>h) (Or.inl ⟨by rfl, ?_⟩) hHeld ?_
      rotate_left
      · intro wq hSq; (try dsimp only at hSq); go_simp; try with_reducible rfl
      try simp only [Act.put,List.setIfInBounds_toArray,List.set_cons_zero,List.set_cons_succ,List.getElem_toArray,List.getElem_cons_zero,List.getElem_cons_succ]
      refine wpAnyH_take (i:=12) (v:=undef) rfl (by kernel_rfl) (by kernel_rfl) (by kernel_rfl) (fun _ _ _ h=>h) (Or.inr ⟨by rfl,rfl⟩) hHeld ?_
      try simp only [Act.put,List.setIfInBounds_toArray,List.set_cons_zero,List.set_cons_succ,List.getElem_toArray,List.getElem_cons_zero,List.getElem_cons_succ]
      refine wpAnyH_take (i:=13) (v:=undef) rfl (by kernel_rfl) (by kernel_rfl) (by kernel_rfl) (fun _ _ _ h=>h) (Or.inr ⟨by rfl,rfl⟩) hHeld ?_
      try simp only [Act.put,List.setIfInBounds_toArray,List.set_cons_zero,List.set_cons_succ,List.getElem_toArray,List.getElem_cons_zero,List.getElem_cons_succ]
      refine wpAnyH_take (i:=14) (v:=undef) rfl (by kernel_rfl) (by kernel_rfl) (by kernel_rfl) (fun _ _ _ h=>h) (Or.inr ⟨by rfl,rfl⟩) hHeld ?_
      try simp only [Act.put,List.setIfInBounds_toArray,List.set_cons_zero,List.set_cons_succ,List.getElem_toArray,List.getElem_cons_zero,List.getElem_cons_succ]
      refine wpAnyH_take (i:=15) (v:=?_) rfl (by kernel_rfl) (by kernel_rfl) (by kernel_rfl) (fun _ _ _ h=>h) (Or.inl ⟨by rfl, ?_⟩) hHeld ?_
      rotate_left
      · intro wq hSq; (try dsimp only at hSq); go_simp; try with_reducible rfl
      try simp only [Act.put,List.setIfInBounds_toArray,List.set_cons_zero,List.set_cons_succ,List.getElem_toArray,List.getElem_cons_zero,List.getElem_cons_succ]
      refine wpAnyH_take (i:=16) (v:=?_) rfl (by kernel_rfl) (by kernel_rfl) (by kernel_rfl) (fun _ _ _ h=>h) (Or.inl ⟨by rfl, ?_⟩) hHeld ?_
      rotate_left
      · intro wq hSq; (try dsimp only at hSq); go_simp; try with_reducible rfl
      try simp only [Act.put,List.setIfInBounds_toArray,List.set_cons_zero,List.set_cons_succ,List.getElem_toArray,List.getElem_cons_zero,List.getElem_cons_succ]
      refine wpAnyH_take (i:=17) (v:=undef) rfl (by kernel_rfl) (by kernel_rfl) (by kernel_rfl) (fun _ _ _ h=>h) (Or.inr ⟨by rfl,rfl⟩) hHeld ?_
      try simp only [Act.put,List.setIfInBounds_toArray,List.set_cons_zero,List.set_cons_succ,List.getElem_toArray,List.getElem_cons_zero,List.getElem_cons_succ]
      refine wpAnyH_take (i:=18) (v:=undef) rfl (by kernel_rfl) (by kernel_rfl) (by kernel_rfl) (fun _ _ _ h=>h) (Or.inr ⟨by rfl,rfl⟩) hHeld ?_
      try simp only [Act.put,List.setIfInBounds_toArray,List.set_cons_zero,List.set_cons_succ,List.getElem_toArray,List.getElem_cons_zero,List.getElem_cons_succ]
      refine wpAnyH_take (i:=19) (v:=undef) rfl (by kernel_rfl) (by kernel_rfl) (by kernel_rfl) (fun _ _ _ h=>h) (Or.inr ⟨by rfl,rfl⟩) hHeld ?_
      try simp only [Act.put,List.setIfInBounds_toArray,List.set_cons_zero,List.set_cons_succ,List.getElem_toArray,List.getElem_cons_zero,List.getElem_cons_succ]
      refine wpAnyH_take (i:=20) (v:=undef) rfl (by kernel_rfl) (by kernel_rfl) (by kernel_rfl) (fun _ _ _ h=>h) (Or.inr ⟨by rfl,rfl⟩) hHeld ?_
      try simp only [Act.put,List.setIfInBounds_toArray,List.set_cons_zero,List.set_cons_succ,List.getElem_toArray,List.getElem_cons_zero,List.getElem_cons_succ]
      refine wpAnyH_take (i:=21) (v:=undef) rfl (by kernel_rfl) (by kernel_rfl) (by kernel_rfl) (fun _ _ _ h=>h) (Or.inr ⟨by rfl,rfl⟩) hHeld ?_
      try simp only [Act.put,List.setIfInBounds_toArray,List.set_cons_zero,List.set_cons_succ,List.getElem_toArray,List.getElem_cons_zero,List.getElem_cons_succ]
      refine wpAnyH_take (i:=22) (v:=?_) rfl (by kernel_rfl) (by kernel_rfl) (by kernel_rfl) (fun _ _ _ h=>h) (Or.inl ⟨by rfl, ?_⟩) hHeld ?_
      rotate_left
      · intro wq hSq; (try dsimp only at hSq); go_simp; try with_reducible rfl
      try simp only [Act.put,List.setIfInBounds_toArray,List.set_cons_zero,List.set_cons_succ,List.getElem_toArray,List.getElem_cons_zero,List.getElem_cons_succ]
      refine wpAnyH_done (by kernel_rfl) ?_ _;refine NoPanic.normal ?_;go_wp2_with fail
      go_meet;exact⟨true,rfl,(fun h=>by cases h),HBv⟩
  case rest =>
    obtain⟨q,rfl,HQ,HB0⟩:=hcut;clear KHb KHc KMb KMc HBv hA1 hC1;have S1:=H_ (HS.out.go HB0.out);clear HS HB0;cases q with
    | true =>
      go_wp2_with (go_at_call 10; go_loud (refine (HAW.out _ S1.out.bel).mono ?_; rintro e w9 ⟨rfl,hb⟩; have B9:=H_ (S1.out.bel.trans (hb.mono S1.out.bel.size)); clear hb))
      go_ret;exact⟨rfl,B9.out⟩
    | false =>
      obtain⟨e1,e2,hne⟩:=HQ rfl;subst e1;subst e2;have GB:=H_ (And.intro HMB.out.symm HMC.out.symm);have HNE:=H_ hne;clear HQ HMB HMC hne CB;go_upto_region 4 with fail
      obtain⟨k,hk3,hk⟩:=form_k x;rw [hk];have HK3:=H_ hk3;clear hk hk3;have HA:=H_ (And.intro (head_parts ((mb_iff b).1 GB.out.1).1).1 (head_parts ((mb_iff b).1 GB.out.1).1).2.1);have hcz:=(head_parts ((mb_iff c).1 GB.out.2).1).2.1;have xb:=raw_51 (k:=k) GB.out.1;have yb:=HoD.gr_len (HoD.re_gr (f:=fmI k) GB.out.1) (by have:=ImD.re_len (ImL.fmI_is k) GB.out.1; omega);have xc:=raw_51 (k:=3) GB.out.2;have yc:=HoD.gr_len (HoD.re_gr (f:=fmI 3) GB.out.2) (by have:=ImD.re_len (ImL.fmI_is 3) GB.out.2; omega);have KF:=H_ (full_ok (k:=k) HK3.out (wcp:=wcp) (mcp:=mcp) (b:=b) (HT.out.below S1.out.bel lr_) (StrsAt.below HX.out.1 S1.out.bel lr_) (MsgsAt.below HX.out.2.1 S1.out.bel lr_) S1.out.bel.size HC.out.1 HC.out.2.1 GB.out.1);have F0:=few_put (D:=[]) (id:=b.id) (ids:=[b.id,c.id]) (x:=rawI k b) (y:=bytesR (re (fmI k) b)) List.Pairwise.nil (few_nil _) (by simp) HA.out.2 xb yb;obtain⟨D0,hD0⟩ : ∃ D0,D0=SfT.dall [] (chPut b.id (rawI k b) (bytesR (re (fmI k) b))):=⟨_,rfl⟩;unfold FullOut ptr at KF;rw [<- hD0] at F0 KF;obtain⟨L1,hL1⟩ : ∃ L1,L1=chPut c.id (rawI 3 c) (bytesR (re (fmI 3) c)):=⟨_,rfl⟩
      have HF1:=H_ (fun s (hC:SfU.Cl D0 1000000 s) (hK:SfV.Fk D0)=>by
        have h:=fit_put (id:=c.id) (x:=rawI 3 c) (y:=bytesR (re (fmI 3) c)) hC hK.srt F0 (ids:=[b.id,c.id]) (by simpa using HNE.out) (by simp) hcz xc yc
        rwa [<- hL1] at h)
      have HZ1:=szC3 (id:=c.id) hcz xc yc;have HN1:=H_ (show L1.length=3 by rw [hL1]; rfl)
      have HF2:=H_ (fun (hK:SfV.Fk D0)=>by
        have h:=few_put (id:=c.id) (x:=rawI 3 c) (y:=bytesR (re (fmI 3) c)) hK.srt F0 (by simp) hcz xc yc
        rwa [<- hL1] at h)
      have HK1:=H_ (fun (hK:SfV.Fk D0)=>by
        have h:=kept_put (k:=3) (b:=c) hK.srt (.inr (.inr rfl)) GB.out.2
        rwa [<- hL1] at h)
      have KP:=H_ (fun (wr:World) (hs:Tw w wr (bxC b WA wn wcp MA mn mcp) (bxC c VA vn vcp NA nn ncp))=>by
        have h:Calls Tryz.prog 18 #[.int .i64 3,.agg #[.string c.id,.int .i64 c.valid,.int .i64 c.next,.int .i64 c.high,.slice VA vn vcp,.slice NA nn ncp]] wr (ChOutE (chPut c.id (rawI 3 c) (bytesR (re (fmI 3) c))) 0 wr):=HoP.put_ok (k:=3) (.inr (.inr rfl)) (HT.out.below hs.bel lr_) (StrsAt.below HX.out.2.2.1 hs.bel lr_) (MsgsAt.below HX.out.2.2.2 hs.bel lr_) hs.bel.size HC.out.2.2.1 HC.out.2.2.2 GB.out.2
        rwa [<- hL1] at h)
      rw [<- hL1] at HZ1;have HZ1:=H_ HZ1;unfold ChOutE at KP;clear hD0 F0 hL1 xb yb xc yc hcz;obtain⟨b0,b1,b2,b3,b4,b5,_⟩:=RwKit.six_at S1.out.bb
      go_upto_region 5 with (go_at_call 11; go_loud (
         refine KF.out.mono ?_;rintro e w2 ⟨T,S,s,rfl,hT,h1,h2⟩;have R2:=H_ h1;have S2:=H_ (S1.out.go h2);have hTw:w.heap.size+2<=T:=Nat.le_trans S1.out.lt hT;clear h1 h2 hT b0 b1 b2 b3 b4 b5))
      clear KF S1;obtain⟨m0,m1,m2,m3,m4,m5,_⟩:=RwKit.six_at S2.out.cb;have KP2:=H_ (KP.out w2 S2.out)
      go_upto_region 6 with (go_at_call 18; go_loud (
         refine KP2.out.mono ?_;rintro e w3 ⟨A3,n3,cp3,rfl,hch,hb⟩;have L3:=H_ hch;have B3:=H_ hb;have S3:=H_ (S2.out.go hb);clear hch hb m0 m1 m2 m3 m4 m5))
      have hn3:n3=3:=by rw [<- L3.out.1]; exact HN1.out
      subst hn3;clear KP KP2 S2;have KC:=H_ (commit_rs (cp:=cp3) R2.out B3.out L3.out (by omega) (by omega) HZ1.out (HF1.out s R2.out.cl R2.out.fk));have F1:=HF2.out R2.out.fk;have K1:=HK1.out R2.out.fk;obtain⟨s1,hs1⟩ : ∃ s1,s1=SfO.comS s L1:=⟨_,rfl⟩;obtain⟨D1,hD1⟩ : ∃ D1,D1=SfT.dall D0 L1:=⟨_,rfl⟩;rw [<- hs1,<- hD1] at KC;rw [<- hD1] at F1 K1;have F1:=H_ F1;have K1:=H_ K1;unfold ptr at KC;clear hs1 hD1 HF1 HF2 HK1 HN1 HZ1
      go_upto_region 9 with (go_at_call 15; go_loud (
         refine KC.out.mono ?_;rintro e w4 ⟨rfl,h1,h2⟩;have R4:=H_ h1;have S4:=H_ (S3.out.to (h2.to (by have:=R2.out.lt; have:=B3.out.size; omega)) hTw);clear h1 h2))
      clear KC R2 B3 L3 S3;have KG:=H_ (gone_any b.id w4 (by have:=HA.out.2; omega));have HZ2:=H_ (szCg HA.out.2);have HF3:=H_ (fit_gone (id:=b.id) R4.out.cl R4.out.fk.srt F1.out (by simpa using HNE.out) (by simp) HA.out.2);have F2:=few_drop R4.out.fk.srt F1.out;have K2:=kept_gone (id:=b.id) R4.out.fk.srt K1.out (fun e=>HNE.out e.symm);have N2:=none_gone (id:=b.id) R4.out.fk.srt;obtain⟨L2,hL2⟩ : ∃ L2,L2=chGone b.id:=⟨_,rfl⟩;have HN2:=H_ (show L2.length=3 by rw [hL2]; rfl);rw [<- hL2] at KG HZ2 HF3 F2 K2 N2;unfold ChOut at KG;clear hL2 F1 K1;obtain⟨s2,hs2⟩ : ∃ s2,s2=SfO.comS s1 L2:=⟨_,rfl⟩;obtain⟨D2,hD2⟩ : ∃ D2,D2=SfT.dall D1 L2:=⟨_,rfl⟩;rw [<- hD2] at F2 K2 N2;have F2:=H_ F2;have K2:=H_ K2;have N2:=H_ N2;have HS2:=H_ hs2;have HD2:=H_ hD2;clear hs2 hD2;obtain⟨b0,b1,b2,b3,b4,b5,_⟩:=RwKit.six_at S4.out.bb
      go_upto_region 11 with (first
        | (go_at_call 19; go_loud (
         refine KG.out.mono ?_;rintro e w5 ⟨A5,n5,cp5,rfl,hch,hb⟩;have S5:=H_ (S4.out.go hb);have hn5:n5=3:=by rw [<- hch.1]; exact HN2.out
         subst hn5;have KC:=H_ (commit_rs (cp:=cp5) R4.out hb hch (by omega) (by omega) HZ2.out HF3.out);have hlt:T<w5.heap.size:=by have:=R4.out.lt; have:=hb.size; omega
         rw [<- HS2.out,<- HD2.out] at KC;unfold ptr at KC;clear hch hb b0 b1 b2 b3 b4 b5))
        | (go_at_call 15; go_loud (
         refine KC.out.mono ?_;rintro e w6 ⟨rfl,h1,h2⟩;have R6:=H_ h1;have S6:=H_ (S5.out.to (h2.to (Nat.le_of_lt hlt)) hTw);clear h1 h2)))
      clear KC KG R4 S4 S5 HS2 HD2 HZ2 HF3 HN2 hlt;have hnm:=names_two R6.out.fk F2.out K2.out;have KN:=H_ (SfQ.names_s R6.out.sx);have KL:=H_ (HoL.load_none R6.out.sx (by omega) R6.out.cl R6.out.fk HA.out.1 HA.out.2 N2.out);unfold HoL.noneV ptr at KL;clear KN;obtain⟨b0,b1,b2,b3,b4,b5,_⟩:=RwKit.six_at S6.out.bb
      go_upto_region 12 with (go_at_call 16; go_loud (
         refine KL.out.mono ?_;rintro e w7 ⟨rfl,hb⟩;have R7:=H_ (R6.out.go hb);have S7:=H_ (S6.out.go hb);clear hb b0 b1 b2 b3 b4 b5))
      clear KL R6 S6;have R8:=H_ (R7.out.go (below_alloc w7 (.cells #[.string ⟨#[]⟩,.int .i64 0,.int .i64 0,.int .i64 0,.slice none 0 0,.slice none 0 0,.int .i64 0,.slice none 0 0] 48)));have S8:=H_ (S7.out.go (below_alloc w7 (.cells #[.string ⟨#[]⟩,.int .i64 0,.int .i64 0,.int .i64 0,.slice none 0 0,.slice none 0 0,.int .i64 0,.slice none 0 0] 48)));generalize (World.alloc w7 _)=w8 at R8 S8 ⊢;clear R7 S7;have KL:=H_ (HoL.load_ok R8.out.sx (by omega) (HT.out.below S8.out.bel lr_) R8.out.cl R8.out.fk K2.out);unfold KeptOut ptr at KL;obtain⟨m0,m1,m2,m3,m4,m5,_⟩:=RwKit.six_at S8.out.cb
      go_upto_region 13 with (go_at_call 16; go_loud (
         refine KL.out.mono ?_;rintro e w9 ⟨XA,xn,xc,YA,yn,yc,A7,n7,c7,rfl,_,_,_,hx,hy,_,hb⟩;have R9:=H_ (R8.out.go hb);have S9:=H_ (S8.out.go hb);have X9:=H_ (And.intro hx hy);clear hb hx hy m0 m1 m2 m3 m4 m5))
      clear KL R8 S8;have hN:=heap_alloc_new w9 (.cells #[.string c.id,.int .i64 c.valid,.int .i64 c.next,.int .i64 c.high,.slice XA xn xc,.slice YA yn yc,.int .i64 3,.slice A7 n7 c7] 48);have hba:=below_alloc w9 (.cells #[.string c.id,.int .i64 c.valid,.int .i64 c.next,.int .i64 c.high,.slice XA xn xc,.slice YA yn yc,.int .i64 3,.slice A7 n7 c7] 48);have R10:=H_ (R9.out.go hba);have S10:=H_ (S9.out.go hba);have X10:=H_ (And.intro (StrsAt.below X9.out.1 hba lr_) (And.intro (MsgsAt.below X9.out.2 hba lr_) hba.size));obtain⟨X,hX⟩ : ∃ X,X=w9.heap.size:=⟨_,rfl⟩;rw [<- hX] at hN X10 ⊢;clear hX hba R9 S9 X9;generalize (World.alloc w9 _)=w10 at hN R10 S10 X10 ⊢;have KS:=refSame_any (bid:=c.id) (bv:=c.valid) (bn:=c.next) (bh:=c.high) (bid':=c.id) (bv':=c.valid) (bn':=c.next) (bh':=c.high) (wc:=xc) (mc:=yc) (wc':=vcp) (mc':=ncp) X10.out.1 X10.out.2.1 (StrsAt.below HX.out.2.2.1 S10.out.bel lr_) (MsgsAt.below HX.out.2.2.2 S10.out.bel lr_) X10.out.2.2 X10.out.2.2 S10.out.bel.size S10.out.bel.size;rw [eqX_eq rfl] at KS;have KS:=H_ KS
      have KN:=H_ (fun (wr:World) (h:Rs T S (6+3+2+3+2) wr D2 s2)=>by
        have g:=SfQ.names_s h.sx (by omega) (by rw [h.cl.files]; exact hnm.1)
        rwa [h.cl.files,hnm.2] at g)
      unfold SfQ.DlPost ptr at KN;have cX:=fun o=>cell_of_row w10 X o _ _ _ hN;have q0:=(cX 0).trans (show _=some (Value.string c.id) from rfl);have q1:=(cX 1).trans (show _=some (Value.int .i64 c.valid) from rfl);have q2:=(cX 2).trans (show _=some (Value.int .i64 c.next) from rfl);have q3:=(cX 3).trans (show _=some (Value.int .i64 c.high) from rfl);have q4:=(cX 4).trans (show _=some (Value.slice XA xn xc) from rfl);have q5:=(cX 5).trans (show _=some (Value.slice YA yn yc) from rfl);obtain⟨m0,m1,m2,m3,m4,m5,_⟩:=RwKit.six_at S10.out.cb;clear cX hN hnm
      go_wp2_with (first
        | (go_at_call 17; go_loud (
         refine KS.out.mono ?_;rintro e w11 ⟨rfl,hb⟩;have R11:=H_ (R10.out.go hb);have S11:=H_ (S10.out.go hb);have KN2:=H_ (KN.out w11 R11.out);clear hb q0 q1 q2 q3 q4 q5 m0 m1 m2 m3 m4 m5))
        | (go_at_call 20; go_loud (
         refine KN2.out.mono ?_;rintro e w12 ⟨A8,c8,rfl,hb⟩;have S12:=H_ (S11.out.go hb);clear hb))
        | (go_at_call 10; go_loud (refine (HAW.out _ S12.out.bel).mono ?_; rintro e w13 ⟨rfl,hb⟩; have B13:=H_ (S12.out.bel.trans (hb.mono S12.out.bel.size)); clear hb)))
      go_ret;exact⟨rfl,B13.out⟩
end Go.Proofs.YtoljpfapphoflaaGreatDoor.HlG
