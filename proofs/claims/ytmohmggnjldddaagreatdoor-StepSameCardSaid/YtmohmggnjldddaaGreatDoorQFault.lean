/-
  The project's answer for a tour (tree's fault): proved is that it answers the limit that ended the tour, else whether a node hasn't its form, else whether a name is none.
-/
import Derived.Test.YtmohmggnjldddaaGreatDoorQTourG
import Derived.Test.YtmohmggnjldddaaGreatDoorQRune4
import Derived.Test.YtmohmggnjldddaaGreatDoorQOwn
import Derived.Stop.Asserts
namespace Go.Proofs.YtmohmggnjldddaaGreatDoor
open Go Go.RowKit
structure Clos (B c3 c5:Nat) (T3 T5:TypeId) (d:Int) (v:Value) (w:World):Prop where
 b3:Blk w c3 #[.pointer (some ⟨B,0,none⟩)] T3
 b5:Blk w c5 #[.int .i64 d] T5
 n3:c3 ≠ B
 n5:c5 ≠ B
 r3:some c3 ≠ v.ownBlock
 r5:some c5 ≠ v.ownBlock
theorem row_next {B c:Nat} {v v':Value} {w w':World} (hf:Fr B v.ownBlock v'.ownBlock w w') (hc:c < w.heap.size) (hr:some c ≠ v.ownBlock):some c ≠ v'.ownBlock:=by
 rcases hf.row with h | h
 · rw [h];exact hr
 · intro e;have:=h c e.symm;omega
theorem Clos.next {B c3 c5:Nat} {T3 T5:TypeId} {d:Int} {v v':Value} {w w':World} (h:Clos B c3 c5 T3 T5 d v w) (hf:Fr B v.ownBlock v'.ownBlock w w'):Clos B c3 c5 T3 T5 d v' w' :=
 ⟨h.b3.fr hf h.n3 h.r3,h.b5.fr hf h.n5 h.r5,h.n3,h.n5,row_next hf h.b3.lt h.r3,row_next hf h.b5.lt h.r5⟩
theorem eachC_any (w0:World) (B:Nat) (k n:Int) (nm:ByteArray) (xs cs ts es:List Nd) (hxs:∀ i (h:i < xs.length),WalkOf w0 B xs[i]) (hcs:∀ i (h:i < cs.length),WalkOf w0 B cs[i]):EachOf w0 B (.mk .C k n nm xs cs ts es):=by
 intro vs d t v w c3 c5 T3 T5 hin hw hB0 hd0 hd1 htok htl h3 h5 hn3 hn5 hr3 hr5 hT
 unfold NdIn at hin
 obtain ⟨⟨rfl,rfl,rfl⟩,-,-,-,vx,vc,vt,ve,rfl,hx,hc,-,-⟩:=hin
 change Calls Tryz.prog 230 #[.agg #[.int .i64 k,.int .i64 n,vx,vc],_] w (TouredTo w0 w B v (if (tourL xs (d+1) t).lim ≠ 0 then tourL xs (d+1) t else tourL cs (d+1) (tourL xs (d+1) t)))
 have hcl:Clos B c3 c5 T3 T5 d v w:=⟨h3,h5,hn3,hn5,hr3,hr5⟩
 have hb:Below w.heap.size w (w.alloc (.cells #[.int .i64 k,.int .i64 n,vx,vc] 246)):=(Below.refl _ w).alloc (Nat.le_refl _) _
 have hbox:=Blk.new w #[.int .i64 k,.int .i64 n,vx,vc] 246
 have hboxB:w.heap.size ≠ B:=by have:=hT.blk.lt;omega
 have hboxR:some w.heap.size ≠ v.ownBlock:=fun e=>by have:=(hT.row _ e.symm).2;omega
 have hcl1:Clos B c3 c5 T3 T5 d v (w.alloc (.cells #[.int .i64 k,.int .i64 n,vx,vc] 246)):=hcl.next (Fr.below hb)
 have hT1:=hT.below hb
 have hw1:=hw.trans (hb.mono hw.size)
 have hok1:=tourL_ok xs (d+1) t htok (by omega)
 have HS1:=Lib.hid (showE_any w0 B xs hxs vx d t v _ c3 c5 T3 T5 hx hw1 hB0 hd0 hd1 htok htl hcl1.b3 hcl1.b5 hn3 hn5 hr3 hr5 hT1)
 have HS2:=Lib.hid (fun t1 v1 w1 (h1:t1.ok) (h2:t1.lim=0) (h3:Clos B c3 c5 T3 T5 d v1 w1) (h4:TourIn w0 w1 B t1 v1) (h5:Below w0.heap.size w0 w1)=>showC_any w0 B cs hcs vc d t1 v1 w1 c3 c5 T3 T5 hc h5 hB0 hd0 hd1 h1 h2 h3.b3 h3.b5 h3.n3 h3.n5 h3.r3 h3.r5 h4)
 obtain ⟨a,c,rfl,-⟩:=hx
 obtain ⟨a2,c2,rfl,-⟩:=hc
 obtain ⟨t1,ht1⟩:∃ t1,tourL xs (d+1) t=t1:=⟨_,rfl⟩
 rw [ht1] at HS1 hok1 ⊢
 clear ht1
 have HCL:=Lib.hid hcl1;clear hcl1 hcl h3 h5
 have HBB:=Lib.hid hb;clear hb
 have HBX:=Lib.hid hbox;clear hbox
 have HW1:=Lib.hid hw1;clear hw1
 have HT0:=Lib.hid hT;clear hT hT1
 by_cases hz:t1.lim=0
 · rw [if_neg (by simpa using hz)]
   obtain ⟨t2,ht2⟩:∃ t2,tourL cs (d+1) t1=t2:=⟨_,rfl⟩
   have hdz:decide (t1.lim=0)=true:=by simpa using hz
   have HS3:=Lib.hid (fun v1 w1 h3 h4 h5=>by have:=HS2.out t1 v1 w1 hok1 hz h3 h4 h5;rwa [ht2] at this)
   rw [ht2]
   clear ht2 HS2
   go_enter Tryz.func230,Tryz.ntmps230
   go_wp2_with fail
   refine HS1.out.mono ?_
   rintro e w2 ⟨v2,rfl,h2,hf⟩
   rw [hdz]
   clear hdz
   have k3:w2.cell? ⟨w.heap.size,3,none⟩=some (.slice a2 cs.length c2):=(HBX.out.fr hf hboxB hboxR).cell 3
   have HC2:=Lib.hid (HS3.out v2 w2 (HCL.out.next hf) h2 (HW1.out.trans (hf.old hB0 HW1.out.size (fun g hg=>(HT0.out.row g hg).1))))
   have HF:=Lib.hid ((Fr.below HBB.out).trans hf);clear hf h2
   go_wp2_with fail
   refine HC2.out.mono ?_
   rintro e w3 ⟨v3,rfl,h3,hf3⟩
   have HF3:=Lib.hid (HF.out.trans hf3);clear hf3
   have H3:=Lib.hid h3;clear h3
   go_wp2
   go_ret
   exact ⟨v3,rfl,H3.out,HF3.out⟩
 · rw [if_pos (by simpa using hz)]
   have hdz:decide (t1.lim=0)=false:=by simpa using hz
   have HDZ:=Lib.hid hdz
   go_enter Tryz.func230,Tryz.ntmps230
   go_wp2_with fail
   refine HS1.out.mono ?_
   rintro e w2 ⟨v2,rfl,h2,hf⟩
   rw [hdz]
   clear hdz
   have HF:=Lib.hid ((Fr.below HBB.out).trans hf);clear hf
   have H2:=Lib.hid h2;clear h2
   go_wp2
   go_ret
   exact ⟨v2,by rw [HDZ.out];rfl,H2.out,HF.out⟩
theorem box_next {B b:Nat} {cs:Array Value} {T:TypeId} {v v':Value} {w w':World} (h:Blk w b cs T∧b ≠ B∧some b ≠ v.ownBlock) (hf:Fr B v.ownBlock v'.ownBlock w w'):Blk w' b cs T∧b ≠ B∧some b ≠ v'.ownBlock :=
 ⟨h.1.fr hf h.2.1 h.2.2,h.2.1,row_next hf h.1.lt h.2.2⟩
set_option maxHeartbeats 4000000 in
theorem eachS_any (w0:World) (B:Nat) (k n:Int) (nm:ByteArray) (xs cs ts es:List Nd) (hxs:∀ i (h:i < xs.length),WalkOf w0 B xs[i]) (hcs:∀ i (h:i < cs.length),WalkOf w0 B cs[i]) (hts:∀ i (h:i < ts.length),WalkOf w0 B ts[i]) (hes:∀ i (h:i < es.length),WalkOf w0 B es[i]):EachOf w0 B (.mk .S k n nm xs cs ts es):=by
 intro vs d t v w c3 c5 T3 T5 hin hw hB0 hd0 hd1 htok htl h3 h5 hn3 hn5 hr3 hr5 hT
 unfold NdIn at hin
 obtain ⟨_,-,-,-,vx,vc,vt,ve,rfl,hx,hc,ht,he⟩:=hin
 change Calls Tryz.prog 225 #[.agg #[.int .i64 k,.string nm,vx,vc,vt,ve],_] w (TouredTo w0 w B v (kidsT (.mk .S k n nm xs cs ts es) (d+1) t))
 have hcl:Clos B c3 c5 T3 T5 d v w:=⟨h3,h5,hn3,hn5,hr3,hr5⟩
 have hb:Below w.heap.size w (w.alloc (.cells #[.int .i64 k,.string nm,vx,vc,vt,ve] 243)):=(Below.refl _ w).alloc (Nat.le_refl _) _
 have BX:=Lib.hid (show Blk (w.alloc (.cells #[.int .i64 k,.string nm,vx,vc,vt,ve] 243)) w.heap.size _ _∧w.heap.size ≠ B∧some w.heap.size ≠ v.ownBlock from ⟨Blk.new w #[.int .i64 k,.string nm,vx,vc,vt,ve] 243,by have:=hT.blk.lt;omega,fun e=>by have:=(hT.row _ e.symm).2;omega⟩)
 have hcl1:Clos B c3 c5 T3 T5 d v (w.alloc (.cells #[.int .i64 k,.string nm,vx,vc,vt,ve] 243)):=hcl.next (Fr.below hb)
 have hT1:=hT.below hb
 have hw1:=hw.trans (hb.mono hw.size)
 have hkt:kidsT (.mk .S k n nm xs cs ts es) (d+1) t=if (tourL cs (d+1) t).lim ≠ 0 then tourL cs (d+1) t else if (tourL xs (d+1) (tourL cs (d+1) t)).lim ≠ 0 then tourL xs (d+1) (tourL cs (d+1) t) else if (tourL ts (d+1) (tourL xs (d+1) (tourL cs (d+1) t))).lim ≠ 0 then tourL ts (d+1) (tourL xs (d+1) (tourL cs (d+1) t)) else tourL es (d+1) (tourL ts (d+1) (tourL xs (d+1) (tourL cs (d+1) t))):=rfl
 rw [hkt]
 clear hkt
 have hok1:=tourL_ok cs (d+1) t htok (by omega)
 have hok2:=tourL_ok xs (d+1) _ hok1 (by omega)
 have hok3:=tourL_ok ts (d+1) _ hok2 (by omega)
 have HS1:=Lib.hid (showC_any w0 B cs hcs vc d t v _ c3 c5 T3 T5 hc hw1 hB0 hd0 hd1 htok htl hcl1.b3 hcl1.b5 hn3 hn5 hr3 hr5 hT1)
 have HS2:=Lib.hid (fun t1 v1 w1 (h1:t1.ok) (h2:t1.lim=0) (h3:Clos B c3 c5 T3 T5 d v1 w1) (h4:TourIn w0 w1 B t1 v1) (h5:Below w0.heap.size w0 w1)=>showE_any w0 B xs hxs vx d t1 v1 w1 c3 c5 T3 T5 hx h5 hB0 hd0 hd1 h1 h2 h3.b3 h3.b5 h3.n3 h3.n5 h3.r3 h3.r5 h4)
 have HS3:=Lib.hid (fun t1 v1 w1 (h1:t1.ok) (h2:t1.lim=0) (h3:Clos B c3 c5 T3 T5 d v1 w1) (h4:TourIn w0 w1 B t1 v1) (h5:Below w0.heap.size w0 w1)=>showS_any w0 B ts hts vt d t1 v1 w1 c3 c5 T3 T5 ht h5 hB0 hd0 hd1 h1 h2 h3.b3 h3.b5 h3.n3 h3.n5 h3.r3 h3.r5 h4)
 have HS4:=Lib.hid (fun t1 v1 w1 (h1:t1.ok) (h2:t1.lim=0) (h3:Clos B c3 c5 T3 T5 d v1 w1) (h4:TourIn w0 w1 B t1 v1) (h5:Below w0.heap.size w0 w1)=>showS_any w0 B es hes ve d t1 v1 w1 c3 c5 T3 T5 he h5 hB0 hd0 hd1 h1 h2 h3.b3 h3.b5 h3.n3 h3.n5 h3.r3 h3.r5 h4)
 obtain ⟨a,c2,rfl,-⟩:=hx
 obtain ⟨b,d2,rfl,-⟩:=hc
 obtain ⟨e,f2,rfl,-⟩:=ht
 obtain ⟨g,h2,rfl,-⟩:=he
 obtain ⟨t1,ht1⟩:∃ t1,tourL cs (d+1) t=t1:=⟨_,rfl⟩
 rw [ht1] at HS1 hok1 hok2 hok3 ⊢
 clear ht1
 have HS2:=Lib.hid (HS2.out t1)
 obtain ⟨t2,ht2⟩:∃ t2,tourL xs (d+1) t1=t2:=⟨_,rfl⟩
 rw [ht2] at HS2 hok2 hok3 ⊢
 clear ht2
 have HS3:=Lib.hid (HS3.out t2)
 obtain ⟨t3,ht3⟩:∃ t3,tourL ts (d+1) t2=t3:=⟨_,rfl⟩
 rw [ht3] at HS3 hok3 ⊢
 clear ht3
 have HS4:=Lib.hid (HS4.out t3)
 obtain ⟨t4,ht4⟩:∃ t4,tourL es (d+1) t3=t4:=⟨_,rfl⟩
 rw [ht4] at HS4 ⊢
 clear ht4
 have HCL:=Lib.hid hcl1;clear hcl1 hcl h3 h5
 have HBB:=Lib.hid hb;clear hb
 have HW1:=Lib.hid hw1;clear hw1
 have HT0:=Lib.hid hT1;clear hT hT1
 by_cases hz1:t1.lim=0
 · rw [if_neg (by simpa using hz1)]
   have hd1:decide (t1.lim=0)=true:=by simpa using hz1
   by_cases hz2:t2.lim=0
   · rw [if_neg (by simpa using hz2)]
     have hd2:decide (t2.lim=0)=true:=by simpa using hz2
     by_cases hz3:t3.lim=0
     · rw [if_neg (by simpa using hz3)]
       have hd3:decide (t3.lim=0)=true:=by simpa using hz3
       go_enter Tryz.func225,Tryz.ntmps225
       go_wp2_with fail
       refine HS1.out.mono ?_
       rintro e w2 ⟨v2,rfl,h2,hf⟩
       rw [hd1]
       clear hd1
       have B2:=Lib.hid (box_next BX.out hf)
       have k2:w2.cell? ⟨w.heap.size,2,none⟩=some (.slice a xs.length c2):=B2.out.1.cell 2
       have O2:=Lib.hid (HW1.out.trans (hf.old hB0 HW1.out.size (fun g hg=>(HT0.out.row g hg).1)))
       have L2:=Lib.hid (HCL.out.next hf)
       have HC2:=Lib.hid (HS2.out v2 w2 hok1 hz1 L2.out h2 O2.out)
       have T2:=Lib.hid h2;clear h2
       have F2:=Lib.hid ((Fr.below HBB.out).trans hf);clear hf
       go_wp2_with fail
       refine HC2.out.mono ?_
       rintro e w3 ⟨v3,rfl,h3,hf⟩
       rw [hd2]
       clear hd2
       have B3:=Lib.hid (box_next B2.out hf)
       have k3:w3.cell? ⟨w.heap.size,4,none⟩=some (.slice e ts.length f2):=B3.out.1.cell 4
       have O3:=Lib.hid (O2.out.trans (hf.old hB0 O2.out.size (fun g hg=>(T2.out.row g hg).1)))
       have L3:=Lib.hid (L2.out.next hf)
       have HC3:=Lib.hid (HS3.out v3 w3 hok2 hz2 L3.out h3 O3.out)
       have T3:=Lib.hid h3;clear h3
       have F3:=Lib.hid (F2.out.trans hf);clear hf
       go_wp2_with fail
       refine HC3.out.mono ?_
       rintro e w4 ⟨v4,rfl,h4,hf⟩
       rw [hd3]
       clear hd3
       have B4:=Lib.hid (box_next B3.out hf)
       have k4:w4.cell? ⟨w.heap.size,5,none⟩=some (.slice g es.length h2):=B4.out.1.cell 5
       have O4:=Lib.hid (O3.out.trans (hf.old hB0 O3.out.size (fun g hg=>(T3.out.row g hg).1)))
       have L4:=Lib.hid (L3.out.next hf)
       have HC4:=Lib.hid (HS4.out v4 w4 hok3 hz3 L4.out h4 O4.out)
       have T4:=Lib.hid h4;clear h4
       have F4:=Lib.hid (F3.out.trans hf);clear hf
       go_wp2_with fail
       refine HC4.out.mono ?_
       rintro e w5 ⟨v5,rfl,h5,hf⟩
       have F5:=Lib.hid (F4.out.trans hf);clear hf
       have H5:=Lib.hid h5;clear h5
       go_wp2
       go_ret
       exact ⟨v5,rfl,H5.out,F5.out⟩
     · rw [if_pos (by simpa using hz3)]
       have hd3:decide (t3.lim=0)=false:=by simpa using hz3
       go_enter Tryz.func225,Tryz.ntmps225
       go_wp2_with fail
       refine HS1.out.mono ?_
       rintro e w2 ⟨v2,rfl,h2,hf⟩
       rw [hd1]
       clear hd1
       have B2:=Lib.hid (box_next BX.out hf)
       have k2:w2.cell? ⟨w.heap.size,2,none⟩=some (.slice a xs.length c2):=B2.out.1.cell 2
       have O2:=Lib.hid (HW1.out.trans (hf.old hB0 HW1.out.size (fun g hg=>(HT0.out.row g hg).1)))
       have L2:=Lib.hid (HCL.out.next hf)
       have HC2:=Lib.hid (HS2.out v2 w2 hok1 hz1 L2.out h2 O2.out)
       have T2:=Lib.hid h2;clear h2
       have F2:=Lib.hid ((Fr.below HBB.out).trans hf);clear hf
       go_wp2_with fail
       refine HC2.out.mono ?_
       rintro e w3 ⟨v3,rfl,h3,hf⟩
       rw [hd2]
       clear hd2
       have B3:=Lib.hid (box_next B2.out hf)
       have k3:w3.cell? ⟨w.heap.size,4,none⟩=some (.slice e ts.length f2):=B3.out.1.cell 4
       have O3:=Lib.hid (O2.out.trans (hf.old hB0 O2.out.size (fun g hg=>(T2.out.row g hg).1)))
       have L3:=Lib.hid (L2.out.next hf)
       have HC3:=Lib.hid (HS3.out v3 w3 hok2 hz2 L3.out h3 O3.out)
       have T3:=Lib.hid h3;clear h3
       have F3:=Lib.hid (F2.out.trans hf);clear hf
       go_wp2_with fail
       refine HC3.out.mono ?_
       rintro e w4 ⟨v4,rfl,h4,hf⟩
       rw [hd3]
       have F4:=Lib.hid (F3.out.trans hf);clear hf
       have H4:=Lib.hid h4;clear h4
       have HDZ:=Lib.hid hd3;clear hd3
       go_wp2
       go_ret
       exact ⟨v4,by rw [HDZ.out];rfl,H4.out,F4.out⟩
   · rw [if_pos (by simpa using hz2)]
     have hd2:decide (t2.lim=0)=false:=by simpa using hz2
     go_enter Tryz.func225,Tryz.ntmps225
     go_wp2_with fail
     refine HS1.out.mono ?_
     rintro e w2 ⟨v2,rfl,h2,hf⟩
     rw [hd1]
     clear hd1
     have B2:=Lib.hid (box_next BX.out hf)
     have k2:w2.cell? ⟨w.heap.size,2,none⟩=some (.slice a xs.length c2):=B2.out.1.cell 2
     have O2:=Lib.hid (HW1.out.trans (hf.old hB0 HW1.out.size (fun g hg=>(HT0.out.row g hg).1)))
     have L2:=Lib.hid (HCL.out.next hf)
     have HC2:=Lib.hid (HS2.out v2 w2 hok1 hz1 L2.out h2 O2.out)
     have T2:=Lib.hid h2;clear h2
     have F2:=Lib.hid ((Fr.below HBB.out).trans hf);clear hf
     go_wp2_with fail
     refine HC2.out.mono ?_
     rintro e w3 ⟨v3,rfl,h3,hf⟩
     rw [hd2]
     have F3:=Lib.hid (F2.out.trans hf);clear hf
     have H3:=Lib.hid h3;clear h3
     have HDZ:=Lib.hid hd2;clear hd2
     go_wp2
     go_ret
     exact ⟨v3,by rw [HDZ.out];rfl,H3.out,F3.out⟩
 · rw [if_pos (by simpa using hz1)]
   have hd1:decide (t1.lim=0)=false:=by simpa using hz1
   go_enter Tryz.func225,Tryz.ntmps225
   go_wp2_with fail
   refine HS1.out.mono ?_
   rintro e w2 ⟨v2,rfl,h2,hf⟩
   rw [hd1]
   have F2:=Lib.hid ((Fr.below HBB.out).trans hf);clear hf
   have H2:=Lib.hid h2;clear h2
   have HDZ:=Lib.hid hd1;clear hd1
   go_wp2
   go_ret
   exact ⟨v2,by rw [HDZ.out];rfl,H2.out,F2.out⟩
theorem eachD_any (w0:World) (B:Nat) (k n:Int) (nm:ByteArray) (xs cs ts es:List Nd):EachOf w0 B (.mk .D k n nm xs cs ts es):=by
 intro vs d t v w c3 c5 T3 T5 hin hw hB0 hd0 hd1 htok htl h3 h5 hn3 hn5 hr3 hr5 hT
 unfold NdIn at hin
 obtain ⟨-,-,-,-,vx,vc,vt,ve,rfl,-,-,-,-⟩:=hin
 change Calls Tryz.prog 224 #[.agg #[.string nm,.int .i64 n],_] w (TouredTo w0 w B v t)
 have hb:Below w.heap.size w (w.alloc (.cells #[.string nm,.int .i64 n] 242)):=(Below.refl _ w).alloc (Nat.le_refl _) _
 have H2:=Lib.hid (hT.below hb)
 have HF:=Lib.hid (Fr.below (B:=B) (r:=v.ownBlock) hb)
 have HZ:=Lib.hid (show decide (t.lim=0)=true by simpa using htl)
 clear hT hb htl h3 h5 hw htok
 go_enter Tryz.func224,Tryz.ntmps224
 go_wp2
 go_ret
 exact ⟨v,by rw [HZ.out];rfl,H2.out,HF.out⟩
theorem walkOf_all (w0:World) (B:Nat):∀ (N:Nat) (x:Nd),SizeOf.sizeOf x≤N→WalkOf w0 B x:=by
 intro N
 induction N with
 | zero =>
   intro x hN
   obtain ⟨ty,k,n,nm,xs,cs,ts,es⟩:=x
   simp only [Nd.mk.sizeOf_spec] at hN
   omega
 | succ N ih =>
   intro x hN
   have hmem:=fun y h=>Nd.mem_size (x:=x) (y:=y) h
   obtain ⟨ty,k,n,nm,xs,cs,ts,es⟩:=x
   simp only [Nd.xs,Nd.cs,Nd.ts,Nd.es] at hmem
   have h1:∀ i (h:i < xs.length),WalkOf w0 B xs[i]:=fun i hi=>ih _ (by have:=hmem _ (.inl (List.getElem_mem hi));omega)
   have h2:∀ i (h:i < cs.length),WalkOf w0 B cs[i]:=fun i hi=>ih _ (by have:=hmem _ (.inr (.inl (List.getElem_mem hi)));omega)
   have h3:∀ i (h:i < ts.length),WalkOf w0 B ts[i]:=fun i hi=>ih _ (by have:=hmem _ (.inr (.inr (.inl (List.getElem_mem hi))));omega)
   have h4:∀ i (h:i < es.length),WalkOf w0 B es[i]:=fun i hi=>ih _ (by have:=hmem _ (.inr (.inr (.inr (List.getElem_mem hi))));omega)
   refine walk_gen w0 B _ ?_
   cases ty with
   | E =>
     intro vs d t v w c3 c5 T3 T5 hin hw hB0 hd0 hd1 htok htl q3 q5 hn3 hn5 hr3 hr5 hT
     unfold NdIn at hin
     obtain ⟨⟨rfl,rfl,rfl⟩,-,-,-,vx,vc,vt,ve,rfl,hx,-,-,-⟩:=hin
     exact eachE_any w0 B xs h1 k n nm vx d t v w c3 c5 T3 T5 hx hw hB0 hd0 hd1 htok htl q3 q5 hn3 hn5 hr3 hr5 hT
   | C=>exact eachC_any w0 B k n nm xs cs ts es h1 h2
   | S=>exact eachS_any w0 B k n nm xs cs ts es h1 h2 h3 h4
   | D=>exact eachD_any w0 B k n nm xs cs ts es
section
variable {P:Program} {w:World} {t T xT:TypeId} {v z:Value}
def noIface (P:Program) (T:TypeId):Bool:=match P.underlying T with
 | some (.interface _)=>false
 | some _=>true
 | none=>false
theorem assert_yes (h:noIface P T=true) (v:Value) (xT:TypeId) (w:World):(Instr.typeAssert (.iface T v) xT T true).run P w=.ok (.tuple #[v,.bool true]) w:=by
 unfold noIface at h
 cases hu:P.underlying T with
 | none=>rw [hu] at h;cases h
 | some u =>
   rw [hu] at h
   cases u <;> first | (cases h;done) | simp [Instr.typeAssert,run_underlying hu]
theorem assert_no (h:noIface P T=true) (hne:t ≠ T) (hz:(P.info? T).bind (·.zero)=some z) (v:Value) (xT:TypeId) (w:World):(Instr.typeAssert (.iface t v) xT T true).run P w=.ok (.tuple #[z,.bool false]) w:=by
 unfold noIface at h
 cases hj:P.info? T with
 | none=>rw [hj] at hz;cases hz
 | some j =>
   rw [hj] at hz
   have hz':j.zero=some z:=hz
   cases hu:P.underlying T with
   | none=>rw [hu] at h;cases h
   | some u =>
     rw [hu] at h
     cases u <;> first | (cases h;done) | simp [Instr.typeAssert,run_underlying hu,typeInfo,zeroValue,hj,hz',hne]
end
theorem asD (t:TypeId) (hne:t ≠ 242) (v:Value) (xT:TypeId) (w:World):(Instr.typeAssert (.iface t v) xT 242 true).run Tryz.prog w=.ok (.tuple #[.agg #[.string ⟨#[]⟩,.int .i64 0],.bool false]) w:=assert_no (by kernel_rfl) hne (by kernel_rfl) v xT w
theorem asS (t:TypeId) (hne:t ≠ 243) (v:Value) (xT:TypeId) (w:World):(Instr.typeAssert (.iface t v) xT 243 true).run Tryz.prog w=.ok (.tuple #[.agg #[.int .i64 0,.string ⟨#[]⟩,.slice none 0 0,.slice none 0 0,.slice none 0 0,.slice none 0 0],.bool false]) w:=assert_no (by kernel_rfl) hne (by kernel_rfl) v xT w
theorem asC (t:TypeId) (hne:t ≠ 246) (v:Value) (xT:TypeId) (w:World):(Instr.typeAssert (.iface t v) xT 246 true).run Tryz.prog w=.ok (.tuple #[.agg #[.int .i64 0,.int .i64 0,.slice none 0 0,.slice none 0 0],.bool false]) w:=assert_no (by kernel_rfl) hne (by kernel_rfl) v xT w
theorem isE (v:Value) (xT:TypeId) (w:World):(Instr.typeAssert (.iface 248 v) xT 248 true).run Tryz.prog w=.ok (.tuple #[v,.bool true]) w:=assert_yes (by kernel_rfl) v xT w
theorem isC (v:Value) (xT:TypeId) (w:World):(Instr.typeAssert (.iface 246 v) xT 246 true).run Tryz.prog w=.ok (.tuple #[v,.bool true]) w:=assert_yes (by kernel_rfl) v xT w
theorem isS (v:Value) (xT:TypeId) (w:World):(Instr.typeAssert (.iface 243 v) xT 243 true).run Tryz.prog w=.ok (.tuple #[v,.bool true]) w:=assert_yes (by kernel_rfl) v xT w
theorem isD (v:Value) (xT:TypeId) (w:World):(Instr.typeAssert (.iface 242 v) xT 242 true).run Tryz.prog w=.ok (.tuple #[v,.bool true]) w:=assert_yes (by kernel_rfl) v xT w
def wellD (n:Int):Bool:=!(decide (n < 0) || decide (2147483647 < n))
def wellN:Nd→Bool
 | .mk .E k n nm xs _ _ _=>wellE k n nm xs.length
 | .mk .C k n _ xs cs _ _=>wellC k n xs.length cs.length
 | .mk .S k _ nm xs cs ts es=>wellS k nm xs.length cs.length ts.length es.length
 | .mk .D _ n _ _ _ _ _=>wellD n
set_option maxRecDepth 100000 in
set_option maxHeartbeats 4000000 in
theorem formless_any (x:Nd) (vs:List Value) (w0 w:World) (hin:NdIn w0 x vs) :
    Calls Tryz.prog 145 #[nodeV x.ty vs] w (fun e w'=>e=.returned (.bool (!wellN x))∧Below w.heap.size w w'):=by
 obtain ⟨ty,k,n,nm,xs,cs,ts,es⟩:=x
 unfold NdIn at hin
 obtain ⟨-,-,-,hnm,vx,vc,vt,ve,rfl,hx,hc,ht,he⟩:=hin
 obtain ⟨a,c,rfl,-,-,-⟩:=hx
 obtain ⟨a2,c2,rfl,-,-,-⟩:=hc
 obtain ⟨a3,c3,rfl,h3a,h3b,-⟩:=ht
 obtain ⟨a4,c4,rfl,h4a,h4b,-⟩:=he
 have ht:=Nat.le_trans h3a h3b
 have he:=Nat.le_trans h4a h4b
 clear h3a h3b h4a h4b
 cases ty with
 | E =>
   change Calls _ _ #[.iface 248 (.agg #[.int .i64 k,.int .i64 n,.string nm,.slice a xs.length c])] w (fun e w'=>e=.returned (.bool (!wellE k n nm xs.length))∧Below w.heap.size w w')
   have hf:=fun w=>exprForm_any k n nm a xs.length c w
   obtain ⟨b,hb⟩:∃ b,wellE k n nm xs.length=b:=⟨_,rfl⟩
   rw [hb]
   simp only [hb] at hf
   clear hb ht he hnm
   have HF:=Lib.hid hf;clear hf
   have hal:=(Below.refl w.heap.size w).alloc (Nat.le_refl _) (.cells #[.int .i64 k,.int .i64 n,.string nm,.slice a xs.length c] 248)
   have HAL:=Lib.hid hal;clear hal
   have y1:=asD 248 (by decide)
   have y2:=asS 248 (by decide)
   have y3:=asC 248 (by decide)
   have y4:=isE
   go_enter Tryz.func145,Tryz.ntmps145
   go_wp2_with (first | (go_at_call 179;(with_reducible refine (HF.out _).mono ?_);rintro e w1 ⟨rfl,hw1⟩) | fail)
   go_ret
   exact ⟨rfl,HAL.out.trans (hw1.mono HAL.out.size)⟩
 | C =>
   change Calls _ _ #[.iface 246 (.agg #[.int .i64 k,.int .i64 n,.slice a xs.length c,.slice a2 cs.length c2])] w (fun e w'=>e=.returned (.bool (!wellC k n xs.length cs.length))∧Below w.heap.size w w')
   have hf:=fun w=>condForm_any k n a xs.length c a2 cs.length c2 w
   obtain ⟨b,hb⟩:∃ b,wellC k n xs.length cs.length=b:=⟨_,rfl⟩
   rw [hb]
   simp only [hb] at hf
   clear hb ht he hnm
   have HF:=Lib.hid hf;clear hf
   have hal:=(Below.refl w.heap.size w).alloc (Nat.le_refl _) (.cells #[.int .i64 k,.int .i64 n,.slice a xs.length c,.slice a2 cs.length c2] 246)
   have HAL:=Lib.hid hal;clear hal
   have y1:=asD 246 (by decide)
   have y2:=asS 246 (by decide)
   have y3:=isC
   go_enter Tryz.func145,Tryz.ntmps145
   go_wp2_with (first | (go_at_call 178;(with_reducible refine (HF.out _).mono ?_);rintro e w1 ⟨rfl,hw1⟩) | fail)
   go_ret
   exact ⟨rfl,HAL.out.trans (hw1.mono HAL.out.size)⟩
 | S =>
   change Calls _ _ #[.iface 243 (.agg #[.int .i64 k,.string nm,.slice a xs.length c,.slice a2 cs.length c2,.slice a3 ts.length c3,.slice a4 es.length c4])] w (fun e w'=>e=.returned (.bool (!wellS k nm xs.length cs.length ts.length es.length))∧Below w.heap.size w w')
   have hf:=fun w=>stmtForm_any k nm a xs.length c a2 cs.length c2 a3 ts.length c3 a4 es.length c4 w ht he
   obtain ⟨b,hb⟩:∃ b,wellS k nm xs.length cs.length ts.length es.length=b:=⟨_,rfl⟩
   rw [hb]
   simp only [hb] at hf
   clear hb ht he hnm
   have HF:=Lib.hid hf;clear hf
   have hal:=(Below.refl w.heap.size w).alloc (Nat.le_refl _) (.cells #[.int .i64 k,.string nm,.slice a xs.length c,.slice a2 cs.length c2,.slice a3 ts.length c3,.slice a4 es.length c4] 243)
   have HAL:=Lib.hid hal;clear hal
   have y1:=asD 243 (by decide)
   have y2:=isS
   go_enter Tryz.func145,Tryz.ntmps145
   go_wp2_with (first | (go_at_call 177;(with_reducible refine (HF.out _).mono ?_);rintro e w1 ⟨rfl,hw1⟩) | fail)
   go_ret
   exact ⟨rfl,HAL.out.trans (hw1.mono HAL.out.size)⟩
 | D =>
   change Calls _ _ #[.iface 242 (.agg #[.string nm,.int .i64 n])] w (fun e w'=>e=.returned (.bool (!wellD n))∧Below w.heap.size w w')
   have hal:=(Below.refl w.heap.size w).alloc (Nat.le_refl _) (.cells #[.string nm,.int .i64 n] 242)
   have HAL:=Lib.hid hal;clear hal
   have e:(!wellD n)=(decide (n < 0) || decide (2147483647 < n)):=by unfold wellD;rw [Bool.not_not]
   rw [e]
   clear e ht he hnm
   have y1:=isD
   cases h1:decide (n < 0) with
   | true =>
     go_enter Tryz.func145,Tryz.ntmps145
     go_wp2
     go_ret
     exact ⟨rfl,HAL.out⟩
   | false =>
     cases h2:decide (2147483647 < n) with
     | true =>
       go_enter Tryz.func145,Tryz.ntmps145
       go_wp2
       go_ret
       exact ⟨rfl,HAL.out⟩
     | false =>
       go_enter Tryz.func145,Tryz.ntmps145
       go_wp2
       go_ret
       exact ⟨rfl,HAL.out⟩
def mustN:Nd→Bool
 | .mk .E k _ _ _ _ _ _=>(k == 2) || (k == 4)
 | .mk .C _ _ _ _ _ _ _=>false
 | .mk .S k _ _ _ _ _ _=>(k == 1) || (k == 2)
 | .mk .D _ _ _ _ _ _ _=>true
def ownNm:Nd→ByteArray
 | .mk .C _ _ _ _ _ _ _=>⟨#[]⟩
 | .mk _ _ _ nm _ _ _ _=>nm
theorem asE (t:TypeId) (hne:t ≠ 248) (v:Value) (xT:TypeId) (w:World):(Instr.typeAssert (.iface t v) xT 248 true).run Tryz.prog w=.ok (.tuple #[.agg #[.int .i64 0,.int .i64 0,.string ⟨#[]⟩,.slice none 0 0],.bool false]) w:=assert_no (by kernel_rfl) hne (by kernel_rfl) v xT w
set_option maxRecDepth 100000 in
set_option maxHeartbeats 4000000 in
theorem treename_any (x:Nd) (vs:List Value) (w0 w:World) (hin:NdIn w0 x vs) :
    Calls Tryz.prog 180 #[nodeV x.ty vs] w (fun e w'=>e=.returned (.tuple #[.string (ownNm x),.bool (mustN x)])∧Below w.heap.size w w'):=by
 obtain ⟨ty,k,n,nm,xs,cs,ts,es⟩:=x
 unfold NdIn at hin
 obtain ⟨-,-,-,-,vx,vc,vt,ve,rfl,hx,hc,ht,he⟩:=hin
 obtain ⟨a,c,rfl,-,-,-⟩:=hx
 obtain ⟨a2,c2,rfl,-,-,-⟩:=hc
 obtain ⟨a3,c3,rfl,-,-,-⟩:=ht
 obtain ⟨a4,c4,rfl,-,-,-⟩:=he
 cases ty with
 | E =>
   change Calls _ _ #[.iface 248 (.agg #[.int .i64 k,.int .i64 n,.string nm,.slice a xs.length c])] w (fun e w'=>e=.returned (.tuple #[.string nm,.bool ((k == 2) || (k == 4))])∧Below w.heap.size w w')
   have HAL:=Lib.hid ((Below.refl w.heap.size w).alloc (Nat.le_refl _) (.cells #[.int .i64 k,.int .i64 n,.string nm,.slice a xs.length c] 248))
   have y1:=asD 248 (by decide)
   have y2:=asS 248 (by decide)
   have y4:=isE
   cases h1:(k == 2) with
   | true =>
     go_enter Tryz.func180,Tryz.ntmps180
     go_wp2
     go_quiet (fail)
     go_wp2
     go_ret2
     exact ⟨rfl,below_drewN HAL.out _⟩
   | false =>
     cases h2:(k == 4) with
     | true =>
       go_enter Tryz.func180,Tryz.ntmps180
       go_wp2
       go_quiet (fail)
       go_wp2
       go_ret2
       exact ⟨rfl,below_drewN HAL.out _⟩
     | false =>
       go_enter Tryz.func180,Tryz.ntmps180
       go_wp2
       go_quiet (fail)
       go_wp2
       go_ret2
       exact ⟨rfl,below_drewN HAL.out _⟩
 | C =>
   change Calls _ _ #[.iface 246 (.agg #[.int .i64 k,.int .i64 n,.slice a xs.length c,.slice a2 cs.length c2])] w (fun e w'=>e=.returned (.tuple #[.string ⟨#[]⟩,.bool false])∧Below w.heap.size w w')
   have HAL:=Lib.hid ((Below.refl w.heap.size w).alloc (Nat.le_refl _) (.cells #[.int .i64 k,.int .i64 n,.slice a xs.length c,.slice a2 cs.length c2] 246))
   have y1:=asD 246 (by decide)
   have y2:=asS 246 (by decide)
   have y3:=asE 246 (by decide)
   go_enter Tryz.func180,Tryz.ntmps180
   go_wp2
   go_ret2
   exact ⟨rfl,Below.refl _ w⟩
 | S =>
   change Calls _ _ #[.iface 243 (.agg #[.int .i64 k,.string nm,.slice a xs.length c,.slice a2 cs.length c2,.slice a3 ts.length c3,.slice a4 es.length c4])] w (fun e w'=>e=.returned (.tuple #[.string nm,.bool ((k == 1) || (k == 2))])∧Below w.heap.size w w')
   have HAL:=Lib.hid ((Below.refl w.heap.size w).alloc (Nat.le_refl _) (.cells #[.int .i64 k,.string nm,.slice a xs.length c,.slice a2 cs.length c2,.slice a3 ts.length c3,.slice a4 es.length c4] 243))
   have y1:=asD 243 (by decide)
   have y2:=isS
   cases h1:(k == 1) with
   | true =>
     go_enter Tryz.func180,Tryz.ntmps180
     go_wp2
     go_quiet (fail)
     go_wp2
     go_ret2
     exact ⟨rfl,below_drewN HAL.out _⟩
   | false =>
     cases h2:(k == 2) with
     | true =>
       go_enter Tryz.func180,Tryz.ntmps180
       go_wp2
       go_quiet (fail)
       go_wp2
       go_ret2
       exact ⟨rfl,below_drewN HAL.out _⟩
     | false =>
       go_enter Tryz.func180,Tryz.ntmps180
       go_wp2
       go_quiet (fail)
       go_wp2
       go_ret2
       exact ⟨rfl,below_drewN HAL.out _⟩
 | D =>
   change Calls _ _ #[.iface 242 (.agg #[.string nm,.int .i64 n])] w (fun e w'=>e=.returned (.tuple #[.string nm,.bool true])∧Below w.heap.size w w')
   have HAL:=Lib.hid ((Below.refl w.heap.size w).alloc (Nat.le_refl _) (.cells #[.string nm,.int .i64 n] 242))
   have y1:=isD
   go_enter Tryz.func180,Tryz.ntmps180
   go_wp2
   go_ret2
   exact ⟨rfl,HAL.out⟩
def namelessB (x:Nd):Bool:=mustN x && !nameB (ownNm x)
theorem nameless_any (x:Nd) (vs:List Value) (w0 w:World) (hin:NdIn w0 x vs) :
    Calls Tryz.prog 146 #[nodeV x.ty vs] w (fun e w'=>e=.returned (.bool (namelessB x))∧Below w.heap.size w w'):=by
 have hsz:(ownNm x).size≤maxLen:=by
  obtain ⟨ty,k,n,nm,xs,cs,ts,es⟩:=x
  unfold NdIn at hin
  cases ty
  case C=>exact Nat.zero_le _
  all_goals exact hin.2.2.2.1
 have hn:=treename_any x vs w0 w hin
 have hl:=fun w=>name_any (ownNm x) w hsz
 have hb:namelessB x=(mustN x && !nameB (ownNm x)):=rfl
 rw [hb]
 clear hb
 obtain ⟨V,hV⟩:∃ V,nodeV x.ty vs=V:=⟨_,rfl⟩
 obtain ⟨nm,hnm⟩:∃ nm,ownNm x=nm:=⟨_,rfl⟩
 obtain ⟨m,hm⟩:∃ m,mustN x=m:=⟨_,rfl⟩
 rw [hV,hnm,hm] at hn
 rw [hV,hm,hnm]
 simp only [hnm] at hl
 obtain ⟨q,hq⟩:∃ q,nameB nm=q:=⟨_,rfl⟩
 rw [hq]
 simp only [hq] at hl
 clear hV hnm hm hq hsz hin
 have HN:=Lib.hid hn;clear hn
 have HL:=Lib.hid hl;clear hl
 cases m with
 | false =>
   go_enter Tryz.func146,Tryz.ntmps146
   go_wp2_with (first | (go_at_call 180;(with_reducible refine HN.out.mono ?_);rintro e w1 ⟨rfl,hw1⟩) | fail)
   go_ret
   exact ⟨rfl,hw1⟩
 | true =>
   go_enter Tryz.func146,Tryz.ntmps146
   go_wp2_with (first | (go_at_call 180;(with_reducible refine HN.out.mono ?_);rintro e w1 ⟨rfl,hw1⟩) | (go_at_call 181;(with_reducible refine (HL.out w1).mono ?_);rintro e w2 ⟨rfl,hw2⟩) | fail)
   go_ret
   exact ⟨rfl,hw1.trans (hw2.mono hw1.size)⟩
def CellsAre (w0 w:World) (l:List Nd) (b o:Nat):Prop:=∀ i (h:i < l.length),∃ vs,w.cell? ⟨b,o+i,none⟩=some (nodeV (l[i]).ty vs)∧NdIn w0 l[i] vs
def NoneYet (l:List Nd) (p:Nd→Bool) (i:Nat):Prop:=∀ x ∈ l.take i,p x=false
theorem NoneYet.next {l:List Nd} {p:Nd→Bool} {i:Nat} (h:NoneYet l p i) (hi:i < l.length) (hp:p l[i]=false):NoneYet l p (i+1):=fun x hx=>by
 rw [List.take_succ_eq_append_getElem hi,List.mem_append] at hx
 rcases hx with hx | hx
 · exact h x hx
 · rw [List.mem_singleton.1 hx];exact hp
theorem NoneYet.all {l:List Nd} {p:Nd→Bool} (h:NoneYet l p l.length):l.any p=false:=by
 rw [NoneYet,List.take_length] at h
 rw [List.any_eq_false]
 intro x hx
 rw [h x hx]
 exact Bool.false_ne_true
theorem any_at {l:List Nd} {p:Nd→Bool} {i:Nat} (hi:i < l.length) (hp:p l[i]=true):l.any p=true:=List.any_eq_true.2 ⟨_,List.getElem_mem hi,hp⟩
set_option maxRecDepth 100000 in
set_option maxHeartbeats 4000000 in
theorem index_formless (w0:World) (l:List Nd) (b o c:Nat) (a:Option Addr) (w:World) (hlm:l.length≤4096) (ha:l.length=0 ∨ (a=some ⟨b,o,none⟩∧CellsAre w0 w l b o)) :
    Calls Tryz.prog 176 #[.slice a l.length c,.func (.func 145) #[] #[]] w (fun e w'=>∃ r:Int,e=.returned (.int .i64 r)∧decide (0≤r)=l.any (fun x=>!wellN x)∧Below w.heap.size w w'):=by
 have HA:=Lib.hid ha;clear ha
 have HNO:=Lib.hid (fun h=>NoneYet.all (l:=l) (p:=(fun x=>!wellN x)) h)
 have HYES:=Lib.hid (fun i hi h=>any_at (l:=l) (p:=(fun x=>!wellN x)) (i:=i) hi h)
 obtain ⟨ANY,hANY⟩:∃ A,l.any (fun x=>!wellN x)=A:=⟨_,rfl⟩
 rw [hANY] at HNO HYES ⊢
 clear hANY
 go_enter Tryz.func176,Tryz.ntmps176
 go_wp2
 go_loopw [8] (fun x wr=>∃ i:Nat,x=.int .i64 i∧i≤l.length∧Hid (NoneYet l (fun x=>!wellN x) i)∧Below w.heap.size w wr) (fun x _=>l.length - (intOf x).toNat)
 case atStart=>exact ⟨0,rfl,by omega,Lib.hid (fun x hx=>by simp at hx),Below.refl _ _⟩
 case round =>
  obtain ⟨i,rfl,hi,hno,hbr⟩:=hrel
  have HBR:=Lib.hid hbr;clear hbr
  by_cases hlt:i < l.length
  · have hbi:(i:Int)+1≤9223372036854775807:=by omega
    have hxl:¬ l.length=0:=by omega
    obtain ⟨rfl,hcells⟩:=HA.out.resolve_left hxl
    obtain ⟨vs,hc,hnd⟩:=hcells i hlt
    have hbk:=World.block_lt_of_cell? w ⟨b,o+i,none⟩ hc
    have hcr:wr.cell? ⟨b,o+i,none⟩=some (nodeV l[i].ty vs):=(HBR.out.cell (p:=⟨b,o+i,none⟩) hbk).trans hc
    have hf:=formless_any l[i] vs w0 wr hnd
    have HY:=Lib.hid (HYES.out i hlt)
    have HN:=Lib.hid (fun h=>NoneYet.next (p:=(fun x=>!wellN x)) hno.out hlt h)
    obtain ⟨V,hV⟩:∃ V,nodeV l[i].ty vs=V:=⟨_,rfl⟩
    rw [hV] at hcr hf
    obtain ⟨q,hq⟩:∃ q,(!wellN l[i])=q:=⟨_,rfl⟩
    rw [hq] at hf
    have HQ:=Lib.hid hq;clear hq
    have HF:=Lib.hid hf;clear hf
    clear hc hcells hnd hV
    cases q with
    | true =>
      go_wp2_with (first | (go_at_call 145;(with_reducible refine HF.out.mono ?_);rintro e w2 ⟨rfl,hb2⟩) | fail)
      go_ret
      exact ⟨i,rfl,by rw [HY.out HQ.out];simp,HBR.out.trans (hb2.mono HBR.out.size)⟩
    | false =>
      go_wp2_with (first | (go_at_call 145;(with_reducible refine HF.out.mono ?_);rintro e w2 ⟨rfl,hb2⟩) | fail)
      go_roundw
      case rel=>exact ⟨i+1,by go_num,by omega,Lib.hid (HN.out HQ.out),HBR.out.trans (hb2.mono HBR.out.size)⟩
      case measure=>simp [intOf];omega
  · obtain rfl:i=l.length:=by omega
    go_wp2
    go_ret
    exact ⟨-1,rfl,by rw [HNO.out hno.out];rfl,HBR.out⟩
set_option maxRecDepth 100000 in
set_option maxHeartbeats 4000000 in
theorem index_nameless (w0:World) (l:List Nd) (b o c:Nat) (a:Option Addr) (w:World) (hlm:l.length≤4096) (ha:l.length=0 ∨ (a=some ⟨b,o,none⟩∧CellsAre w0 w l b o)) :
    Calls Tryz.prog 176 #[.slice a l.length c,.func (.func 146) #[] #[]] w (fun e w'=>∃ r:Int,e=.returned (.int .i64 r)∧decide (0≤r)=l.any namelessB∧Below w.heap.size w w'):=by
 have HA:=Lib.hid ha;clear ha
 have HNO:=Lib.hid (fun h=>NoneYet.all (l:=l) (p:=namelessB) h)
 have HYES:=Lib.hid (fun i hi h=>any_at (l:=l) (p:=namelessB) (i:=i) hi h)
 obtain ⟨ANY,hANY⟩:∃ A,l.any namelessB=A:=⟨_,rfl⟩
 rw [hANY] at HNO HYES ⊢
 clear hANY
 go_enter Tryz.func176,Tryz.ntmps176
 go_wp2
 go_loopw [8] (fun x wr=>∃ i:Nat,x=.int .i64 i∧i≤l.length∧Hid (NoneYet l namelessB i)∧Below w.heap.size w wr) (fun x _=>l.length - (intOf x).toNat)
 case atStart=>exact ⟨0,rfl,by omega,Lib.hid (fun x hx=>by simp at hx),Below.refl _ _⟩
 case round =>
  obtain ⟨i,rfl,hi,hno,hbr⟩:=hrel
  have HBR:=Lib.hid hbr;clear hbr
  by_cases hlt:i < l.length
  · have hbi:(i:Int)+1≤9223372036854775807:=by omega
    have hxl:¬ l.length=0:=by omega
    obtain ⟨rfl,hcells⟩:=HA.out.resolve_left hxl
    obtain ⟨vs,hc,hnd⟩:=hcells i hlt
    have hbk:=World.block_lt_of_cell? w ⟨b,o+i,none⟩ hc
    have hcr:wr.cell? ⟨b,o+i,none⟩=some (nodeV l[i].ty vs):=(HBR.out.cell (p:=⟨b,o+i,none⟩) hbk).trans hc
    have hf:=nameless_any l[i] vs w0 wr hnd
    have HY:=Lib.hid (HYES.out i hlt)
    have HN:=Lib.hid (fun h=>NoneYet.next (p:=namelessB) hno.out hlt h)
    obtain ⟨V,hV⟩:∃ V,nodeV l[i].ty vs=V:=⟨_,rfl⟩
    rw [hV] at hcr hf
    obtain ⟨q,hq⟩:∃ q,namelessB l[i]=q:=⟨_,rfl⟩
    rw [hq] at hf
    have HQ:=Lib.hid hq;clear hq
    have HF:=Lib.hid hf;clear hf
    clear hc hcells hnd hV
    cases q with
    | true =>
      go_wp2_with (first | (go_at_call 146;(with_reducible refine HF.out.mono ?_);rintro e w2 ⟨rfl,hb2⟩) | fail)
      go_ret
      exact ⟨i,rfl,by rw [HY.out HQ.out];simp,HBR.out.trans (hb2.mono HBR.out.size)⟩
    | false =>
      go_wp2_with (first | (go_at_call 146;(with_reducible refine HF.out.mono ?_);rintro e w2 ⟨rfl,hb2⟩) | fail)
      go_roundw
      case rel=>exact ⟨i+1,by go_num,by omega,Lib.hid (HN.out HQ.out),HBR.out.trans (hb2.mono HBR.out.size)⟩
      case measure=>simp [intOf];omega
  · obtain rfl:i=l.length:=by omega
    go_wp2
    go_ret
    exact ⟨-1,rfl,by rw [HNO.out hno.out];rfl,HBR.out⟩
theorem CellsAre.keep {w0 w w':World} {l:List Nd} {b o:Nat} (h:CellsAre w0 w l b o) (hb:Below w.heap.size w w'):CellsAre w0 w' l b o:=fun i hi=>by
 obtain ⟨vs,h1,h2⟩:=h i hi
 have lt:=World.block_lt_of_cell? w ⟨b,o+i,none⟩ h1
 exact ⟨vs,(hb.cell (p:=⟨b,o+i,none⟩) lt).trans h1,h2⟩
theorem TourIn.list {w0 w:World} {B:Nat} {t:Tr} {v:Value} (h:TourIn w0 w B t v):∃ (a:Option Addr) (b c:Nat),v=.slice a t.l.length c∧(t.l.length=0 ∨ (a=some ⟨b,0,none⟩∧CellsAre w0 w t.l b 0)):=by
 obtain ⟨_,xs,⟨hlen,h2⟩,hn⟩:=h
 rcases h2 with ⟨h3,h4⟩ | ⟨g,cap,cur,hv,_,hh,hcap,_,hsz,htk⟩
 · exact ⟨none,0,0,by rw [h3,h4],.inl h4⟩
 · refine ⟨some ⟨g,0,none⟩,g,cap,hv,.inr ⟨rfl,fun i hi=>?_⟩⟩
   obtain ⟨vs,h5,h6⟩:=hn i hi
   refine ⟨vs,?_,h6⟩
   have e:cur[i]?=some (nodeV (t.l[i]).ty vs):=by
    rw [← h5,← htk,List.getElem?_take_of_lt (by omega),Array.getElem?_toList]
   simp [World.cell?,hh,e]
theorem contains_formless (w0:World) (l:List Nd) (b o c:Nat) (a:Option Addr) (w:World) (hlm:l.length≤4096) (ha:l.length=0 ∨ (a=some ⟨b,o,none⟩∧CellsAre w0 w l b o)) :
    Calls Tryz.prog 144 #[.slice a l.length c,.func (.func 145) #[] #[]] w (fun e w'=>e=.returned (.bool (l.any (fun x=>!wellN x)))∧Below w.heap.size w w'):=by
 have hi:=index_formless w0 l b o c a w hlm ha
 obtain ⟨ANY,hANY⟩:∃ A,l.any (fun x=>!wellN x)=A:=⟨_,rfl⟩
 rw [hANY] at hi ⊢
 clear hANY
 have HI:=Lib.hid hi;clear hi ha
 go_enter Tryz.func144,Tryz.ntmps144
 go_wp2_with (first | (go_at_call 176;(with_reducible refine HI.out.mono ?_);rintro e w1 ⟨r,rfl,hr,hb⟩;have HR:=Lib.hid hr;clear hr;have HB:=Lib.hid hb;clear hb) | fail)
 go_ret
 exact ⟨by rw [← HR.out];rfl,HB.out⟩
theorem contains_nameless (w0:World) (l:List Nd) (b o c:Nat) (a:Option Addr) (w:World) (hlm:l.length≤4096) (ha:l.length=0 ∨ (a=some ⟨b,o,none⟩∧CellsAre w0 w l b o)) :
    Calls Tryz.prog 144 #[.slice a l.length c,.func (.func 146) #[] #[]] w (fun e w'=>e=.returned (.bool (l.any namelessB))∧Below w.heap.size w w'):=by
 have hi:=index_nameless w0 l b o c a w hlm ha
 obtain ⟨ANY,hANY⟩:∃ A,l.any namelessB=A:=⟨_,rfl⟩
 rw [hANY] at hi ⊢
 clear hANY
 have HI:=Lib.hid hi;clear hi ha
 go_enter Tryz.func144,Tryz.ntmps144
 go_wp2_with (first | (go_at_call 176;(with_reducible refine HI.out.mono ?_);rintro e w1 ⟨r,rfl,hr,hb⟩;have HR:=Lib.hid hr;clear hr;have HB:=Lib.hid hb;clear hb) | fail)
 go_ret
 exact ⟨by rw [← HR.out];rfl,HB.out⟩
def faultT (t:Tr):Int:=if t.lim ≠ 0 then t.lim else if t.l.any (fun x=>!wellN x) then 30 else if t.l.any namelessB then 31 else 0
end Go.Proofs.YtmohmggnjldddaaGreatDoor
