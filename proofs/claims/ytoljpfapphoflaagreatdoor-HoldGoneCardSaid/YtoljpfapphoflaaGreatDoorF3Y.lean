/-
 Parse of the third form: whatever the bytes are.
-/
import Derived.Test.YtoljpfapphoflaaGreatDoorK1
import Derived.Test.YtoljpfapphoflaaGreatDoorJ9
import Derived.Test.YtoljpfapphoflaaGreatDoorL1
import Derived.Lib.SmallJoins
set_option linter.unusedVariables false
set_option linter.unusedSimpArgs false
set_option maxHeartbeats 4000000
set_option maxRecDepth 100000
namespace Go.Proofs.YtoljpfapphoflaaGreatDoor.F3Y
open Go.RowKit BxD BxKit BxR BxC OlD PtD PtK PtR F3D F3R F3M F3U F3V
open PkKit (BytesAt)
open PkF (ptr RD)
open OlOm (Ow.bytes)
theorem itG_mem {σ α:Type} {f:σ->α × σ} : ∀ (k:Nat) (s:σ) (x:α),x∈(itG f k s).1->∃ s',x=(f s').1
 | 0,_,x,h=>by simp [itG] at h
 | k+1,s,x,h=>by
  unfold itG at h;rcases List.mem_append.1 h with h | h
  · exact itG_mem k s x h
  · exact⟨_,List.mem_singleton.1 h⟩
theorem txt_small (m:Nat) (s:St):(txtS m s).1.size<=m:=by
 unfold txtS;split
 · exact Nat.zero_le _
 · have h:(PkF.tz s.1 m).1.length<=m:=by
    unfold PkF.tz;split
    · simp
    · split
      · simp
      · split
        · simp
        · rename_i h1 h2 h3
          simp only [List.length_take];omega
   show (PkF.tz s.1 m).1.toArray.size<=m;simpa using h
theorem msg3_size (a:Int) (s:St):(msg3S a s).1.keys.length<=64/\(msg3S a s).1.id.size<=300/\(msg3S a s).1.text.size<=300:=by
 obtain⟨u,o,d,f,k,i,x,_,_,_,_,hk,hi,hx,e⟩:=msg3_parts a s;rw [e];refine⟨?_, ?_, ?_⟩
 · show k.1.length<=64
   rw [hk];unfold kyS3;simp only [itG_len];exact nt_le _ _
 · show i.1.size<=300
   rw [hi];exact Nat.le_trans (txt_small 24 _) (by decide)
 · show x.1.size<=300
   rw [hx];exact txt_small 300 _
theorem box3_sizes (s:St):(box3S s).1.words.length<=64/\(box3S s).1.msgs.length<=60/\(∀ x∈(box3S s).1.words,x.size<=24)/\∀ m∈(box3S s).1.msgs,m.keys.length<=64/\m.id.size<=300/\m.text.size<=300:=by
 obtain⟨v,n,g,i,c,w,e,m,_,_,_,_,hc,hw,he,hm,hb⟩:=box3_parts s;rw [hb];refine⟨?_, ?_, ?_, ?_⟩
 · show w.1.length<=64
   rw [hw,it_itG,itG_len,hc]; exact nt_le _ _
 · show m.1.length<=60
   rw [hm,itG_len,he]; exact nt_le _ _
 · intro x hx
   replace hx:x∈w.1:=hx
   rw [hw] at hx;obtain⟨s',rfl⟩:=it_mem _ _ _ hx;exact txt_small 24 _
 · intro x hx
   replace hx:x∈m.1:=hx
   rw [hm] at hx;obtain⟨s',rfl⟩:=itG_mem _ _ _ hx;have h:=msg3_size s'.2 s'.1;have e:(msgF s').1=(msg3S s'.2 s'.1).1:=by unfold msgF; rfl
   rw [e];exact h
structure PS (w wr:World):Prop where
 bel:Below w.heap.size w wr
 res:wr.heap[w.heap.size]? = some (.cells zbox 25 (0,0))
theorem PS.lt {w wr:World} (h:PS w wr):w.heap.size<wr.heap.size:=(gs_ h.res).1
theorem PS.go {w wr w2:World} (h:PS w wr) (hb:Below wr.heap.size wr w2):PS w w2:=⟨h.bel.trans (hb.mono h.bel.size),(hb.block _ h.lt).trans h.res⟩
theorem PS.fr {w wr w2:World} {R T:Nat} (h:PS w wr) (hf:Fr2 R T wr w2) (hR:w.heap.size<R) (hT:w.heap.size<T):PS w w2:=⟨h.bel.trans (hf.to h.bel.size (by omega) (by omega)),(hf.block _ h.lt (by omega) (by omega)).trans h.res⟩
theorem PS.alloc {w wr:World} (h:PS w wr) (o:Obj):PS w (wr.alloc o):=h.go ((Below.refl _ _).alloc lr_ o)
theorem ps_none {w wr:World} (h:PS w wr) (er:Int) : ∃ W,W=(((((wr.setCell ⟨w.heap.size,0,none⟩ (.string ⟨#[]⟩)).setCell ⟨w.heap.size,1,none⟩ (.int .i64 0)).setCell ⟨w.heap.size,2,none⟩ (.int .i64 0)).setCell ⟨w.heap.size,3,none⟩ (.int .i64 0)).setCell ⟨w.heap.size,4,none⟩ (.slice none 0 0)).setCell ⟨w.heap.size,5,none⟩ (.slice none 0 0) /\
 W.cell? ⟨w.heap.size,0,none⟩ = some (.string ⟨#[]⟩)/\W.cell? ⟨w.heap.size,1,none⟩ = some (.int .i64 0)/\W.cell? ⟨w.heap.size,2,none⟩ = some (.int .i64 0)/\W.cell? ⟨w.heap.size,3,none⟩ = some (.int .i64 0)/\W.cell? ⟨w.heap.size,4,none⟩ = some (.slice none 0 0)/\W.cell? ⟨w.heap.size,5,none⟩ = some (.slice none 0 0) /\
 ParseNew nB er w (.returned (.tuple #[.agg #[.string ⟨#[]⟩,.int .i64 0,.int .i64 0,.int .i64 0,.slice none 0 0,.slice none 0 0],.int .i64 er])) W:=by
 obtain⟨W,hW,a0,a1,a2,a3,a4,a5,hg⟩:=ret6 h.res (.string ⟨#[]⟩) (.int .i64 0) (.int .i64 0) (.int .i64 0) (.slice none 0 0) (.slice none 0 0);exact⟨W,hW,a0,a1,a2,a3,a4,a5,none,0,0,none,0,0,rfl,Nat.le_refl _,Nat.le_refl _,fun _ _ _=>⟨RowAt.nil _ _ _ _ _,RowAt.nil _ _ _ _ _⟩,h.bel.grown hg h.bel.size (fun k e=>by have:w.heap.size=k:=Option.some.inj e; omega)⟩
theorem parse_any {w:World} {B n cp:Nat} {A:Option Addr} {l:List UInt8} {id:ByteArray} (hz:BytesAt w B A n l) (hB:B<=w.heap.size) (hc:n<=cp) (hn:n<=140737488355328) :
 Calls Tryz.prog 131 #[.slice A n cp,.string id] w (ParseNew (parse3S l id).1 (parse3S l id).2 w):=by
 have hbz:=(Below.refl w.heap.size w).alloc lr_ (.cells zbox 25);have P0:=H_ (show PS w (w.alloc (.cells zbox 25)) from ⟨hbz,heap_alloc_new w _⟩);unfold zbox at P0 hbz;have HZ:=H_ (hz.below hbz hB);clear hz hbz;go_enter Tryz.func131,Tryz.ntmps131;go_upto_region 1 with fail
 generalize (World.alloc w _)=w0 at P0 HZ ⊢;have hl0:=P0.out.lt;have hcv:(convert 37 37 (.slice (some ⟨w0.heap.size,0,none⟩) 3 3)).run Tryz.prog (w0.alloc (.cells #[.int .u8 77,.int .u8 66,.int .u8 51] 5)) = .ok (.slice (some ⟨w0.heap.size,0,none⟩) 3 3) (w0.alloc (.cells #[.int .u8 77,.int .u8 66,.int .u8 51] 5 (3,4))) :=
  _root_.Go.Joins.run_convert_bytes_const_at (P:=Tryz.prog) w0 37 5 #[.int .u8 77,.int .u8 66,.int .u8 51] 3 3 w0.heap.size rfl Tryz.underlying37 Tryz.underlying5
 have P1:=H_ (P0.out.alloc (.cells #[.int .u8 77,.int .u8 66,.int .u8 51] 5 (3,4)));have HZ1:=H_ (HZ.out.below ((Below.refl w0.heap.size w0).alloc lr_ (.cells #[.int .u8 77,.int .u8 66,.int .u8 51] 5 (3,4))) (by omega));have hmk:=Ow.bytes (F3C.own_const w0 mk3 #[.int .u8 77,.int .u8 66,.int .u8 51] 3 rfl rfl (by decide));have KP:=H_ (cutPrefix_any (c2:=3) HZ1.out hc hn hmk);have hsm:(w0.alloc (.cells #[.int .u8 77,.int .u8 66,.int .u8 51] 5 (3,4))).heap.size=w0.heap.size+1:=by simp
 clear hmk P0 HZ;by_cases hb:l.take 3=mk3
 · go_upto_region 2 with (go_at_call 163; go_loud (
    refine KP.out.mono ?_;rintro e w1 ⟨rfl,⟨_,A',c',rfl,hz2,hc2⟩ | ⟨hno,_⟩⟩
    rotate_left
    · exact absurd hb hno
    have HZ2:=H_ hz2;clear hz2))
   clear hcv KP HZ1;generalize (World.alloc w0 _)=w1 at P1 HZ2 hsm ⊢;have hB1:B<=w1.heap.size:=by omega
   have hl1:=P1.out.lt;have KN:=H_ (new_p (cp:=c') HZ2.out hB1 (by omega));go_upto_region 5 with (go_at_call 87; go_loud (
    refine KN.out.mono ?_;rintro e w2 ⟨R,T,rfl,hR,hT,hrd,hb2⟩;have P2:=H_ (P1.out.go hb2);have HR2:=H_ hrd;have hR1:w.heap.size<R:=by omega
    have hT1:w.heap.size<T:=by omega
    have hs12:=hb2.size;clear hrd hb2))
   have P3:=H_ (P2.out.alloc (.cells #[ptr R] 192));have F3:=H_ (HR2.out.alloc (.cells #[ptr R] 192));have Q3:=H_ (show RBk (w2.alloc (.cells #[ptr R] 192)) w2.heap.size R from heap_alloc_new w2 _);have hR2:=HR2.out.lt;have hT2:=HR2.out.rd.lt;obtain⟨Q,hQ⟩ : ∃ Q,Q=w2.heap.size:=⟨_,rfl⟩;rw [<- hQ] at Q3 ⊢;have hQ1:w.heap.size<Q:=by omega
   have hQR:Q≠R:=by omega
   have hQT:Q≠T:=by omega
   clear P1 HZ2 KN P2 HR2 hQ hR hT;generalize (World.alloc w2 _)=w3 at P3 F3 Q3 ⊢;have KB:=H_ (box_r F3.out);have HSZ:=H_ (box3_sizes (l.drop 3,0,false));obtain⟨b,hbx⟩ : ∃ b,b=(box3S (l.drop 3,0,false)).1:=⟨_,rfl⟩;obtain⟨s,hsx⟩ : ∃ s,s=(box3S (l.drop 3,0,false)).2:=⟨_,rfl⟩;have hps:parse3S l id=if firstS s≠0 then (nB,(firstS s:Int)) else if 0<s.1.length\/b.id≠id\/mbE b≠0 then (nB,3) else (b,0):=by unfold parse3S; rw [if_pos hb,<- hbx,<- hsx]
   rw [<- hbx,<- hsx] at KB;rw [<- hbx] at HSZ;have HPS:=H_ hps;clear hps hbx hsx hb;have b0:=Q3.out.cell;have hQ3:Q<w3.heap.size:=(gs_ Q3.out).1;go_upto_region 6 with (go_at_call 164; go_loud (
    refine KB.out.mono ?_;rintro e w4 ⟨WA,wc,MA,mc',rs,rfl,ow,om,rm,ko,hrd,hf⟩;have P4:=H_ (P3.out.fr hf hR1 hT1);have F4:=H_ hrd;have Q4:=H_ (show RBk w4 Q R from (hf.block Q hQ3 hQR hQT).trans Q3.out);have OW:=H_ ow;have OM:=H_ om;have RM:=H_ rm;have KO:=H_ ko;have hb34:w.heap.size<w3.heap.size:=P3.out.lt;clear ow om rm ko hrd hf b0))
   have P5:=H_ (P4.out.alloc (.cells #[.string b.id,.int .i64 b.valid,.int .i64 b.next,.int .i64 b.high,.slice WA b.words.length wc,.slice MA b.msgs.length mc'] 25));have F5:=H_ (F4.out.alloc (.cells #[.string b.id,.int .i64 b.valid,.int .i64 b.next,.int .i64 b.high,.slice WA b.words.length wc,.slice MA b.msgs.length mc'] 25));have Q5:=H_ (show RBk (w4.alloc (.cells #[.string b.id,.int .i64 b.valid,.int .i64 b.next,.int .i64 b.high,.slice WA b.words.length wc,.slice MA b.msgs.length mc'] 25)) Q R from (heap_alloc_old w4 _ (gs_ Q4.out).1).trans Q4.out);have X5:=H_ (heap_alloc_new w4 (.cells #[.string b.id,.int .i64 b.valid,.int .i64 b.next,.int .i64 b.high,.slice WA b.words.length wc,.slice MA b.msgs.length mc'] 25));have OW5:=H_ (OW.out.alloc (.cells #[.string b.id,.int .i64 b.valid,.int .i64 b.next,.int .i64 b.high,.slice WA b.words.length wc,.slice MA b.msgs.length mc'] 25));have OM5:=H_ (OM.out.alloc (.cells #[.string b.id,.int .i64 b.valid,.int .i64 b.next,.int .i64 b.high,.slice WA b.words.length wc,.slice MA b.msgs.length mc'] 25));have KO5:=H_ (fun r hr=>(KO.out r hr).alloc (.cells #[.string b.id,.int .i64 b.valid,.int .i64 b.next,.int .i64 b.high,.slice WA b.words.length wc,.slice MA b.msgs.length mc'] 25));obtain⟨X,hX⟩ : ∃ X,X=w4.heap.size:=⟨_,rfl⟩;rw [<- hX] at X5 ⊢;have hX3:w.heap.size<X:=by have:=P4.out.lt; omega
   clear hX P3 P4 F3 F4 Q3 Q4 OW OM KO KB;generalize (World.alloc w4 _)=w5 at P5 F5 Q5 X5 OW5 OM5 KO5 ⊢;obtain⟨hsw,hsm2,hs24,hs3⟩:=HSZ.out;have hx5:=strsAt_own OW5.out (by omega) (fun x hx=>by have:=hs24 x hx; omega);have hkeys:KeysOk w5 w5.heap.size rs:=fun r hr=>by
    have hm:r.m∈b.msgs:=by rw [<- RM.out]; exact List.mem_map_of_mem hr
    obtain⟨k1,k2,k3⟩:=hs3 r.m hm;obtain⟨A9,c9,e9,h9⟩:=own_slice (KO5.out r hr);injection e9 with e1 e2 e3;exact⟨intsAt_own (KO5.out r hr) (by omega),by omega,by omega,by omega⟩
   have hm5:=msgsAt_own OM5.out (by omega) hkeys;rw [RM.out] at hm5;have hwc:b.words.length<=wc:=by
    obtain⟨Aw,cw,ew,h⟩:=own_slice OW5.out;injection ew with _ _ e3;omega
   have hmc:b.msgs.length<=mc':=by
    obtain⟨Am,cm,em,h⟩:=own_slice OM5.out;injection em with _ _ e3;omega
   have KF:=H_ (err_p F5.out);have KL:=H_ (left_p F5.out);have KM:=H_ (BxB.may_box (bid:=b.id) (bv:=b.valid) (bn:=b.next) (bh:=b.high) (mc:=mc') hx5 hm5 lr_ hwc);clear hx5 hm5 hkeys hsw hsm2 hs24 hs3;have c0:=F5.out.cells.1;have b0:=Q5.out.cell;have cX:=fun o=>cell_of_row w5 X o _ _ _ X5.out;have d0:=(cX 0).trans (show _=some (Value.string b.id) from rfl);have d1:=(cX 1).trans (show _=some (Value.int .i64 b.valid) from rfl);have d2:=(cX 2).trans (show _=some (Value.int .i64 b.next) from rfl);have d3:=(cX 3).trans (show _=some (Value.int .i64 b.high) from rfl);have d4:=(cX 4).trans (show _=some (Value.slice WA b.words.length wc) from rfl);have d5:=(cX 5).trans (show _=some (Value.slice MA b.msgs.length mc') from rfl);clear cX;obtain⟨fs,hfs⟩ : ∃ fs,fs=firstS s:=⟨_,rfl⟩;rw [<- hfs] at KF HPS;clear hfs;by_cases hf0:fs=0
   · subst hf0
     obtain⟨ln,hln⟩ : ∃ ln,ln=s.1.length:=⟨_,rfl⟩;rw [<- hln] at KL HPS;clear hln;have hps:=HPS.out;rw [if_neg (by simp)] at hps;by_cases hl0':0<ln
     · rw [if_pos (.inl hl0')] at hps
       have HP:=H_ hps;clear hps;have hl0'':(0:Int)<(ln:Int):=by omega
       have P6:=P5;go_upto_region 10 with (first
        | (go_at_call 90; go_loud (
           refine KF.out.mono ?_;rintro e w6 ⟨rfl,rfl⟩))
        | (go_at_call 88; go_loud (
           refine KL.out.mono ?_;rintro e w6 ⟨rfl,rfl⟩;clear KL KF c0 b0 d0 d1 d2 d3 d4 d5)))
       obtain⟨z0,z1,z2,z3,z4,z5,zf⟩:=zcells6 P6.out.res;have f0:=zf 0;have f1:=zf 1;have f2:=zf 2;have f3:=zf 3;have f4:=zf 4;have f5:=zf 5;clear zf;go_wp2_with fail
       obtain⟨W,hW,y0,y1,y2,y3,y4,y5,hO⟩:=ps_none P6.out 3;rw [<- hW];exact bodyPost_ret (v:=.tuple #[.agg #[.string ⟨#[]⟩,.int .i64 0,.int .i64 0,.int .i64 0,.slice none 0 0,.slice none 0 0],.int .i64 3]) (by simp [results,Tryz.results131,go_sem,y0,y1,y2,y3,y4,y5]) rfl (by rw [HP.out]; exact hO)
     · obtain rfl:ln=0:=by omega
       by_cases hid:b.id=id
       · subst hid
         have hid1:(b.id.toList==b.id.toList)=true:=by simp
         obtain⟨er,her⟩ : ∃ er,er=mbE b:=⟨_,rfl⟩;rw [<- her] at KM hps;clear her;by_cases he0:er=0
         · subst he0
           rw [if_neg (by simp)] at hps;have HP:=H_ hps;clear hps;go_upto_region 11 with (first
            | (go_at_call 90; go_loud (
               refine KF.out.mono ?_;rintro e w6 ⟨rfl,rfl⟩))
            | (go_at_call 88; go_loud (
               refine KL.out.mono ?_;rintro e w6 ⟨rfl,rfl⟩))
            | (go_at_call 67; go_loud (
               refine KM.out.mono ?_;rintro e w6 ⟨rfl,hb6⟩;have P6:=H_ (P5.out.go hb6);have X6:=H_ ((hb6.block X (gs_ X5.out).1).trans X5.out);have OW6:=H_ (own_block OW5.out fun g e=>hb6.block g (OW5.out.lt g e).2);have OM6:=H_ (own_block OM5.out fun g e=>hb6.block g (OM5.out.lt g e).2);have KO6:=H_ (fun r hr=>own_block (KO5.out r hr) fun g e=>hb6.block g ((KO5.out r hr).lt g e).2);have hs56:=hb6.size;clear hb6 d0 d1 d2 d3 d4 d5 c0 b0)))
           have cX:=fun o=>cell_of_row w6 X o _ _ _ X6.out;have d0:=(cX 0).trans (show _=some (Value.string b.id) from rfl);have d1:=(cX 1).trans (show _=some (Value.int .i64 b.valid) from rfl);have d2:=(cX 2).trans (show _=some (Value.int .i64 b.next) from rfl);have d3:=(cX 3).trans (show _=some (Value.int .i64 b.high) from rfl);have d4:=(cX 4).trans (show _=some (Value.slice WA b.words.length wc) from rfl);have d5:=(cX 5).trans (show _=some (Value.slice MA b.msgs.length mc') from rfl);clear cX;obtain⟨z0,z1,z2,z3,z4,z5,zf⟩:=zcells6 P6.out.res;have f0:=zf 0;have f1:=zf 1;have f2:=zf 2;have f3:=zf 3;have f4:=zf 4;have f5:=zf 5;clear zf;go_wp2_with fail
           obtain⟨W,hW,p0,p1,p2,p3,p4,p5,hWg⟩:=ret6 P6.out.res (.string b.id) (.int .i64 b.valid) (.int .i64 b.next) (.int .i64 b.high) (.slice WA b.words.length wc) (.slice MA b.msgs.length mc');rw [<- hW];refine bodyPost_ret (v:=.tuple #[.agg #[.string b.id,.int .i64 b.valid,.int .i64 b.next,.int .i64 b.high,.slice WA b.words.length wc,.slice MA b.msgs.length mc'],.int .i64 0]) (by simp [results,Tryz.results131,go_sem,p0,p1,p2,p3,p4,p5]) rfl ?_;rw [HP.out];obtain⟨hsw,hsm2,hs24,hs3⟩:=HSZ.out;have keep : ∀ {ty sz k:Nat} {x:Value} {xs:List Value},w6.ownsRow w3.heap.size ty sz x k xs->W.ownsRow w3.heap.size ty sz x k xs:=fun {_ _ _ _ _} ho =>
            ho.kept hWg (.inr (fun e2=>by have:=(ho.lt _ e2).1; omega))
           refine⟨WA,_,wc,MA,_,mc',rfl,hwc,hmc,fun W2 hW2 hW3=>?_,P6.out.bel.grown hWg P6.out.bel.size (fun k e=>by have:w.heap.size=k:=Option.some.inj e; omega)⟩;have keep2 : ∀ {ty sz k:Nat} {x:Value} {xs:List Value},w6.ownsRow w3.heap.size ty sz x k xs->W2.ownsRow w3.heap.size ty sz x k xs:=fun {_ _ _ _ _} ho =>
            own_block (keep ho) fun g e=>hW2 g (by have:=((keep ho).lt g e).1; omega) ((keep ho).lt g e).2
           have hsW:=hWg.size;refine⟨?_, ?_⟩
           · exact strsAt_own (keep2 OW6.out) (by omega) (fun x hx=>by have:=hs24 x hx; omega)
           · have hkeys:KeysOk W2 W2.heap.size rs:=fun r hr=>by
              have hm:r.m∈b.msgs:=by rw [<- RM.out]; exact List.mem_map_of_mem hr
              obtain⟨k1,k2,k3⟩:=hs3 r.m hm;obtain⟨A9,c9,e9,h9⟩:=own_slice (KO6.out r hr);injection e9 with e1 e2 e3;exact⟨intsAt_own (keep2 (KO6.out r hr)) (by omega),by omega,by omega,by omega⟩
             have:=msgsAt_own (keep2 OM6.out) (by omega) hkeys
             rwa [RM.out] at this
         · have hps2:parse3S l b.id=(nB,3):=by rw [hps,if_pos (.inr (.inr he0))]
           have HP:=H_ hps2;have he1:(er==0)=false:=by simpa using he0
           have he2:(er != 0)=true:=by simpa using he0
           clear hps hps2;go_upto_region 10 with (first
            | (go_at_call 90; go_loud (
               refine KF.out.mono ?_;rintro e w6 ⟨rfl,rfl⟩))
            | (go_at_call 88; go_loud (
               refine KL.out.mono ?_;rintro e w6 ⟨rfl,rfl⟩))
            | (go_at_call 67; go_loud (
               refine KM.out.mono ?_;rintro e w6 ⟨rfl,hb6⟩;have P6:=H_ (P5.out.go hb6);clear hb6 d0 d1 d2 d3 d4 d5 c0 b0)))
           obtain⟨z0,z1,z2,z3,z4,z5,zf⟩:=zcells6 P6.out.res;have f0:=zf 0;have f1:=zf 1;have f2:=zf 2;have f3:=zf 3;have f4:=zf 4;have f5:=zf 5;clear zf;go_wp2_with fail
           obtain⟨W,hW,y0,y1,y2,y3,y4,y5,hO⟩:=ps_none P6.out 3;rw [<- hW];exact bodyPost_ret (v:=.tuple #[.agg #[.string ⟨#[]⟩,.int .i64 0,.int .i64 0,.int .i64 0,.slice none 0 0,.slice none 0 0],.int .i64 3]) (by simp [results,Tryz.results131,go_sem,y0,y1,y2,y3,y4,y5]) rfl (by rw [HP.out]; exact hO)
       · have hid1:(b.id.toList==id.toList)=false:=by rw [<- beq_toListBytes]; simpa using hid
         rw [if_pos (.inr (.inl hid))] at hps;have HP:=H_ hps;clear hps;have P6:=P5;go_upto_region 10 with (first
          | (go_at_call 90; go_loud (
             refine KF.out.mono ?_;rintro e w6 ⟨rfl,rfl⟩))
          | (go_at_call 88; go_loud (
             refine KL.out.mono ?_;rintro e w6 ⟨rfl,rfl⟩;clear KL KF c0 b0 d1 d2 d3 d4 d5)))
         clear d0;obtain⟨z0,z1,z2,z3,z4,z5,zf⟩:=zcells6 P6.out.res;have f0:=zf 0;have f1:=zf 1;have f2:=zf 2;have f3:=zf 3;have f4:=zf 4;have f5:=zf 5;clear zf;go_wp2_with fail
         obtain⟨W,hW,y0,y1,y2,y3,y4,y5,hO⟩:=ps_none P6.out 3;rw [<- hW];exact bodyPost_ret (v:=.tuple #[.agg #[.string ⟨#[]⟩,.int .i64 0,.int .i64 0,.int .i64 0,.slice none 0 0,.slice none 0 0],.int .i64 3]) (by simp [results,Tryz.results131,go_sem,y0,y1,y2,y3,y4,y5]) rfl (by rw [HP.out]; exact hO)
   · have hps2:parse3S l id=(nB,(fs:Int)):=by rw [HPS.out,if_pos hf0]
     have HP:=H_ hps2;have he1:((fs:Int)==0)=false:=by simpa using hf0
     have he2:((fs:Int) != 0)=true:=by simpa using hf0
     clear hps2;have P6:=P5;go_upto_region 8 with (go_at_call 90; go_loud (
      refine KF.out.mono ?_;rintro e w6 ⟨rfl,rfl⟩;clear KF KL c0 b0 d0 d1 d2 d3 d4 d5))
     obtain⟨z0,z1,z2,z3,z4,z5,zf⟩:=zcells6 P6.out.res;have f0:=zf 0;have f1:=zf 1;have f2:=zf 2;have f3:=zf 3;have f4:=zf 4;have f5:=zf 5;clear zf;go_wp2_with fail
     obtain⟨W,hW,y0,y1,y2,y3,y4,y5,hO⟩:=ps_none P6.out (fs:Int);rw [<- hW];exact bodyPost_ret (v:=.tuple #[.agg #[.string ⟨#[]⟩,.int .i64 0,.int .i64 0,.int .i64 0,.slice none 0 0,.slice none 0 0],.int .i64 (fs:Int)]) (by simp [results,Tryz.results131,go_sem,y0,y1,y2,y3,y4,y5]) rfl (by rw [HP.out]; exact hO)
 · have hp:parse3S l id=(nB,3):=by unfold parse3S; rw [if_neg hb]
   have HP:=H_ hp;clear hp;go_upto_region 3 with (go_at_call 163; go_loud (
    refine KP.out.mono ?_;rintro e w1 ⟨rfl,⟨hno,_⟩ | ⟨_,rfl⟩⟩
    · exact absurd hno hb
    skip))
   clear hcv KP HZ1;generalize (World.alloc w0 _)=w1 at P1 hsm ⊢;obtain⟨z0,z1,z2,z3,z4,z5,zf⟩:=zcells6 P1.out.res;have f0:=zf 0;have f1:=zf 1;have f2:=zf 2;have f3:=zf 3;have f4:=zf 4;have f5:=zf 5;clear zf;go_wp2_with fail
   obtain⟨W,hW,y0,y1,y2,y3,y4,y5,hO⟩:=ps_none P1.out 3;rw [<- hW];exact bodyPost_ret (v:=.tuple #[.agg #[.string ⟨#[]⟩,.int .i64 0,.int .i64 0,.int .i64 0,.slice none 0 0,.slice none 0 0],.int .i64 3]) (by simp [results,Tryz.results131,go_sem,y0,y1,y2,y3,y4,y5]) rfl (by rw [HP.out]; exact hO)
end Go.Proofs.YtoljpfapphoflaaGreatDoor.F3Y
