/-
  The document's names in a condition (gnomonref3's condUses): proved is that it puts them behind the list that it is handed.
-/
import Derived.Test.YtmohmggnjldddaaGreatDoorQFault
import Derived.ChangeKeysEq
import Derived.Laws.StructEq
import Derived.Test.YtmohmggnjldddaaGreatDoorQRune4
import Derived.BigQuiet
import Derived.Outline
import Derived.Deep.DeepCutAuto
import Derived.Deep.CutBlock
import Derived.Test.YtmohmggnjldddaaGreatDoorQTourG
import Derived.Maps.Range
namespace Go.Proofs.YtmohmggnjldddaaGreatDoor
open Go Go.RowKit
set_option maxHeartbeats 1000000 in
theorem top1_any (w0:World) (B:Nat) (x:Nd) (hwalk:WalkOf w0 B x) (vs:List Value) (t:Tr) (v:Value) (w:World) (hx:NdIn w0 x vs) (hw:Below w0.heap.size w0 w) (hB0:w0.heap.size≤B) (ht:t.ok) (hl:t.lim=0) (hin:TourIn w0 w B t v) :
    Calls Tryz.prog 138 #[nodeV x.ty vs,.pointer (some ⟨B,0,none⟩)] w (TouredTo w0 w B v (tourN x 1 t)):=by
 have HC:=Lib.hid (hwalk vs 1 t v w hx hw hB0 (by omega) (by omega) ht hl hin)
 clear hin hwalk hx hw ht hl
 obtain ⟨N,hN⟩:∃ N,nodeV x.ty vs=N:=⟨_,rfl⟩
 rw [hN] at HC ⊢
 clear hN
 obtain ⟨t2,ht2⟩:∃ t2,tourN x 1 t=t2:=⟨_,rfl⟩
 rw [ht2] at HC ⊢
 clear ht2
 go_enter Tryz.func138,Tryz.ntmps138
 go_wp2_with fail
 refine HC.out.mono ?_
 rintro e w2 ⟨v',rfl,h2,h3⟩
 go_wp2
 go_ret
 exact ⟨v',rfl,h2,h3⟩
set_option maxRecDepth 100000 in
set_option maxHeartbeats 4000000 in
theorem topS_any (w0:World) (B:Nat) (xs:List Nd) (hwalk:∀ i (h:i < xs.length),WalkOf w0 B xs[i]) (vx:Value) (t:Tr) (v:Value) (w:World) (hx:SlIn w0 .S xs vx) (hw:Below w0.heap.size w0 w) (hB0:w0.heap.size≤B) (ht:t.ok) (hl:t.lim=0) (hin:TourIn w0 w B t v) :
    Calls Tryz.prog 142 #[vx,.func (.func 143) #[] #[],.func (.func 138) #[] #[.pointer (some ⟨B,0,none⟩)]] w (TouredTo w0 w B v (tourL xs 1 t)):=by
 obtain ⟨a,c,rfl,hlc,hcm,hrow⟩:=hx
 have HROW:=Lib.hid hrow;clear hrow
 have HW:=Lib.hid hwalk;clear hwalk
 have HIN:=Lib.hid hin;clear hin
 go_enter Tryz.func142,Tryz.ntmps142
 go_wp2
 go_loopw [11] (fun x wr=>∃ (i:Nat) (t':Tr) (v':Value),x=.int .i64 i∧i≤xs.length∧tourL xs 1 t=tourL (xs.drop i) 1 t'∧t'.ok∧t'.lim=0∧TourIn w0 wr B t' v'∧Fr B v.ownBlock v'.ownBlock w wr) (fun x _=>xs.length - (intOf x).toNat)
 case atStart=>exact ⟨0,t,v,rfl,by omega,rfl,ht,hl,HIN.out,Fr.refl _ _ _⟩
 case round =>
  obtain ⟨i,t',v',rfl,hi,heq,htok,htl,hinr,hfr⟩:=hrel
  by_cases hlt:i < xs.length
  · have hbi:(i:Int)+1≤9223372036854775807:=by unfold maxLen at hcm;omega
    have hxl:¬ xs.length=0:=by omega
    obtain ⟨b,o,rfl,hrow⟩:=HROW.out.resolve_left hxl
    have hold:Below w0.heap.size w0 wr:=hw.trans (hfr.old hB0 hw.size (fun g hg=>(HIN.out.row g hg).1))
    obtain ⟨hty,u0,u1,u2,u3,u4,u5,m0,m1,m2,m3,m4,m5,hnd⟩:=SlIn.item6 rfl hrow i hlt
    obtain ⟨nk,ns,na,nl,nc,na2,nl2,nc2,na3,nl3,nc3,na4,nl4,nc4,rfl,rfl,rfl,rfl,rfl,rfl⟩:=NdIn.formS hty hnd
    have kk:=keeps_below hold
    have k0:=kk _ _ _ m0
    have k1:=kk _ _ _ m1
    have k2:=kk _ _ _ m2
    have k3:=kk _ _ _ m3
    have k4:=kk _ _ _ m4
    have k5:=kk _ _ _ m5
    go_wp2_with (first | (go_at_call 143;(with_reducible refine (stmtNode_any _ _ _ _ _ _ _).mono ?_);rintro e w1 ⟨rfl,hb1⟩) | fail)
    have htd:=tourL_drop hlt 1 t'
    have htk:=tourN_ok xs[i] 1 t' htok (by omega)
    have hb0:Below wr.heap.size wr w1:=((Below.refl _ wr).alloc (Nat.le_refl _) (.cells #[.int .i64 nk,.string ns,.slice na nl nc,.slice na2 nl2 nc2,.slice na3 nl3 nc3,.slice na4 nl4 nc4] 57)).trans (hb1.mono (by simp))
    have hin1:=hinr.below hb0
    have HC:=Lib.hid (top1_any w0 B xs[i] (HW.out i hlt) _ t' v' w1 hnd (hold.trans (hb0.mono hold.size)) hB0 htok htl hin1)
    rw [hty] at HC
    obtain ⟨t2,ht2⟩:∃ t2,tourN xs[i] 1 t'=t2:=⟨_,rfl⟩
    rw [ht2] at HC htd htk
    clear ht2 hin1 hnd hty m0 m1 m2 m3 m4 m5 kk hold hrow hinr
    have hfr1:=hfr.trans (Fr.below (B:=B) hb0)
    have HFR:=Lib.hid hfr1;clear hfr1 hfr hb0
    by_cases hz:t2.lim=0
    · rw [if_neg (by simpa using hz)] at htd
      refine HC.out.mono ?_
      rintro e w2 ⟨v2,rfl,hin2,hfr2⟩
      have hdz:decide (t2.lim=0)=true:=by simpa using hz
      rw [hdz]
      clear hdz
      have HF2:=Lib.hid (HFR.out.trans hfr2)
      have HI2:=Lib.hid hin2
      have HEQ:=Lib.hid (heq.trans htd)
      clear hfr2 hin2 heq htd
      go_wp2
      go_roundw
      case rel=>exact ⟨i+1,t2,v2,by go_num,by omega,HEQ.out,htk,hz,HI2.out,HF2.out⟩
      case measure=>simp [intOf];omega
    · rw [if_pos (by simpa using hz)] at htd
      refine HC.out.mono ?_
      rintro e w2 ⟨v2,rfl,hin2,hfr2⟩
      have hdz:decide (t2.lim=0)=false:=by simpa using hz
      rw [hdz]
      have HF2:=Lib.hid (HFR.out.trans hfr2)
      have HI2:=Lib.hid hin2
      have HEQ:=Lib.hid (heq.trans htd)
      have HDZ:=Lib.hid hdz
      clear hfr2 hin2 heq htd hdz
      go_wp2
      go_ret
      rw [HEQ.out]
      exact ⟨v2,by rw [HDZ.out];rfl,HI2.out,HF2.out⟩
  · obtain rfl:i=xs.length:=by omega
    rw [List.drop_length,tourL] at heq
    have HEQ:=Lib.hid heq;clear heq
    have hdz:decide (t'.lim=0)=true:=by simpa using htl
    have HDZ:=Lib.hid hdz;clear hdz
    have HF:=Lib.hid hfr;clear hfr
    have HI:=Lib.hid hinr;clear hinr
    go_wp2
    go_ret
    rw [HEQ.out]
    exact ⟨v',by rw [HDZ.out];rfl,HI.out,HF.out⟩
set_option maxRecDepth 100000 in
set_option maxHeartbeats 4000000 in
theorem topD_any (w0:World) (B:Nat) (xs:List Nd) (hwalk:∀ i (h:i < xs.length),WalkOf w0 B xs[i]) (vx:Value) (t:Tr) (v:Value) (w:World) (hx:SlIn w0 .D xs vx) (hw:Below w0.heap.size w0 w) (hB0:w0.heap.size≤B) (ht:t.ok) (hl:t.lim=0) (hin:TourIn w0 w B t v) :
    Calls Tryz.prog 140 #[vx,.func (.func 141) #[] #[],.func (.func 138) #[] #[.pointer (some ⟨B,0,none⟩)]] w (TouredTo w0 w B v (tourL xs 1 t)):=by
 obtain ⟨a,c,rfl,hlc,hcm,hrow⟩:=hx
 have HROW:=Lib.hid hrow;clear hrow
 have HW:=Lib.hid hwalk;clear hwalk
 have HIN:=Lib.hid hin;clear hin
 go_enter Tryz.func140,Tryz.ntmps140
 go_wp2
 go_loopw [11] (fun x wr=>∃ (i:Nat) (t':Tr) (v':Value),x=.int .i64 i∧i≤xs.length∧tourL xs 1 t=tourL (xs.drop i) 1 t'∧t'.ok∧t'.lim=0∧TourIn w0 wr B t' v'∧Fr B v.ownBlock v'.ownBlock w wr) (fun x _=>xs.length - (intOf x).toNat)
 case atStart=>exact ⟨0,t,v,rfl,by omega,rfl,ht,hl,HIN.out,Fr.refl _ _ _⟩
 case round =>
  obtain ⟨i,t',v',rfl,hi,heq,htok,htl,hinr,hfr⟩:=hrel
  by_cases hlt:i < xs.length
  · have hbi:(i:Int)+1≤9223372036854775807:=by unfold maxLen at hcm;omega
    have hxl:¬ xs.length=0:=by omega
    obtain ⟨b,o,rfl,hrow⟩:=HROW.out.resolve_left hxl
    have hold:Below w0.heap.size w0 wr:=hw.trans (hfr.old hB0 hw.size (fun g hg=>(HIN.out.row g hg).1))
    obtain ⟨hty,u0,u1,m0,m1,hnd⟩:=SlIn.item2 rfl hrow i hlt
    obtain ⟨ns,nn,rfl,rfl⟩:=NdIn.formD hty hnd
    have kk:=keeps_below hold
    have k0:=kk _ _ _ m0
    have k1:=kk _ _ _ m1
    go_wp2_with (first | (go_at_call 141;(with_reducible refine (declNode_any _ _ _).mono ?_);rintro e w1 ⟨rfl,hb1⟩) | fail)
    have htd:=tourL_drop hlt 1 t'
    have htk:=tourN_ok xs[i] 1 t' htok (by omega)
    have hb0:Below wr.heap.size wr w1:=((Below.refl _ wr).alloc (Nat.le_refl _) (.cells #[.string ns,.int .i64 nn] 104)).trans (hb1.mono (by simp))
    have hin1:=hinr.below hb0
    have HC:=Lib.hid (top1_any w0 B xs[i] (HW.out i hlt) _ t' v' w1 hnd (hold.trans (hb0.mono hold.size)) hB0 htok htl hin1)
    rw [hty] at HC
    obtain ⟨t2,ht2⟩:∃ t2,tourN xs[i] 1 t'=t2:=⟨_,rfl⟩
    rw [ht2] at HC htd htk
    clear ht2 hin1 hnd hty m0 m1 kk hold hrow hinr
    have hfr1:=hfr.trans (Fr.below (B:=B) hb0)
    have HFR:=Lib.hid hfr1;clear hfr1 hfr hb0
    by_cases hz:t2.lim=0
    · rw [if_neg (by simpa using hz)] at htd
      refine HC.out.mono ?_
      rintro e w2 ⟨v2,rfl,hin2,hfr2⟩
      have hdz:decide (t2.lim=0)=true:=by simpa using hz
      rw [hdz]
      clear hdz
      have HF2:=Lib.hid (HFR.out.trans hfr2)
      have HI2:=Lib.hid hin2
      have HEQ:=Lib.hid (heq.trans htd)
      clear hfr2 hin2 heq htd
      go_wp2
      go_roundw
      case rel=>exact ⟨i+1,t2,v2,by go_num,by omega,HEQ.out,htk,hz,HI2.out,HF2.out⟩
      case measure=>simp [intOf];omega
    · rw [if_pos (by simpa using hz)] at htd
      refine HC.out.mono ?_
      rintro e w2 ⟨v2,rfl,hin2,hfr2⟩
      have hdz:decide (t2.lim=0)=false:=by simpa using hz
      rw [hdz]
      have HF2:=Lib.hid (HFR.out.trans hfr2)
      have HI2:=Lib.hid hin2
      have HEQ:=Lib.hid (heq.trans htd)
      have HDZ:=Lib.hid hdz
      clear hfr2 hin2 heq htd hdz
      go_wp2
      go_ret
      rw [HEQ.out]
      exact ⟨v2,by rw [HDZ.out];rfl,HI2.out,HF2.out⟩
  · obtain rfl:i=xs.length:=by omega
    rw [List.drop_length,tourL] at heq
    have HEQ:=Lib.hid heq;clear heq
    have hdz:decide (t'.lim=0)=true:=by simpa using htl
    have HDZ:=Lib.hid hdz;clear hdz
    have HF:=Lib.hid hfr;clear hfr
    have HI:=Lib.hid hinr;clear hinr
    go_wp2
    go_ret
    rw [HEQ.out]
    exact ⟨v',by rw [HDZ.out];rfl,HI.out,HF.out⟩
def progT (ds ss:List Nd):Tr:=if (tourL ds 1 ⟨[],0,0⟩).lim ≠ 0 then tourL ds 1 ⟨[],0,0⟩ else tourL ss 1 (tourL ds 1 ⟨[],0,0⟩)
theorem progT_ok (ds ss:List Nd):(progT ds ss).ok:=by
 have h0:Tr.ok ⟨[],0,0⟩:=by unfold Tr.ok;simp
 unfold progT
 split
 · exact tourL_ok ds 1 _ h0 (by omega)
 · exact tourL_ok ss 1 _ (tourL_ok ds 1 _ h0 (by omega)) (by omega)
def ListOf (w0 w:World) (l:List Nd) (v:Value):Prop:=∃ (a:Option Addr) (b c:Nat),v=.slice a l.length c∧(l.length=0 ∨ (a=some ⟨b,0,none⟩∧CellsAre w0 w l b 0∧w0.heap.size≤b))
theorem ListOf.keep {w0 w w':World} {l:List Nd} {v:Value} (h:ListOf w0 w l v) (hb:Below w.heap.size w w'):ListOf w0 w' l v:=by
 obtain ⟨a,b,c,h1,h2⟩:=h
 exact ⟨a,b,c,h1,h2.imp id fun ⟨e,h,hn⟩=>⟨e,h.keep hb,hn⟩⟩
theorem through_end (w w3:World) (Q:Tr) (a3:Option Addr) (c3:Nat) {tm:Array Value} {df:List Deferred} (hT:TourIn w w3 (w.heap.size+2) Q (.slice a3 Q.l.length c3)) (hR:Blk w3 (w.heap.size+1) #[.slice none 0 0,.int .i64 0,.int .i64 0] 169) (hb:Below w.heap.size w w3) (h2:tm[2]?=some (.pointer (some ⟨w.heap.size+1,0,none⟩))) (hd:df=[]) :
    bodyPost Tryz.prog Tryz.f101 (fun e w'=>∃ v,e=.returned (.agg #[v,.int .i64 Q.dep,.int .i64 Q.lim])∧ListOf w w' Q.l v∧Below w.heap.size w w') .ret { tmps:=tm,defers:=df }
     (((w3.setCell ⟨w.heap.size+1,0,none⟩ (.slice a3 Q.l.length c3)).setCell ⟨w.heap.size+1,1,none⟩ (.int .i64 Q.dep)).setCell ⟨w.heap.size+1,2,none⟩ (.int .i64 Q.lim)):=by
 subst hd
 have bR:=((hR.set 0 (.slice a3 Q.l.length c3)).set 1 (.int .i64 Q.dep)).set 2 (.int .i64 Q.lim)
 have hb2:=((hb.setCell (p:=⟨w.heap.size+1,0,none⟩) (by simp) (.slice a3 Q.l.length c3)).setCell (p:=⟨w.heap.size+1,1,none⟩) (by simp) (.int .i64 Q.dep)).setCell (p:=⟨w.heap.size+1,2,none⟩) (by simp) (.int .i64 Q.lim)
 obtain ⟨xs,h1,h3⟩:=hT.own
 have ho:=ownsRow_setCell_below (ownsRow_setCell_below (ownsRow_setCell_below h1 (a:=⟨w.heap.size+1,0,none⟩) (by simp) (.slice a3 Q.l.length c3)) (a:=⟨w.heap.size+1,1,none⟩) (by simp) (.int .i64 Q.dep)) (a:=⟨w.heap.size+1,2,none⟩) (by simp) (.int .i64 Q.lim)
 have hk:=((hT.blk.other (a:=⟨w.heap.size+1,0,none⟩) (by simp) (.slice a3 Q.l.length c3)).other (a:=⟨w.heap.size+1,1,none⟩) (by simp) (.int .i64 Q.dep)).other (a:=⟨w.heap.size+1,2,none⟩) (by simp) (.int .i64 Q.lim)
 obtain ⟨W,hW⟩:∃ W,((w3.setCell ⟨w.heap.size+1,0,none⟩ (.slice a3 Q.l.length c3)).setCell ⟨w.heap.size+1,1,none⟩ (.int .i64 Q.dep)).setCell ⟨w.heap.size+1,2,none⟩ (.int .i64 Q.lim)=W:=⟨_,rfl⟩
 rw [hW] at bR hb2 ho hk ⊢
 have hl:ListOf w W Q.l (.slice a3 Q.l.length c3):=by
  have hTW:TourIn w W (w.heap.size+2) Q (.slice a3 Q.l.length c3):=⟨hk,xs,ho,h3⟩
  obtain ⟨a,b,c,e,hx⟩:=hTW.list
  refine ⟨a,b,c,e,hx.imp id fun ⟨e1,h⟩=>⟨e1,h,?_⟩⟩
  have e2:a3=a:=by simp only [Value.slice.injEq] at e;exact e.1
  have:=(hTW.row b (by rw [e2,e1];rfl)).1
  omega
 have q0:W.cell? ⟨w.heap.size+1,0,none⟩=some (.slice a3 Q.l.length c3):=bR.cell 0
 have q1:W.cell? ⟨w.heap.size+1,1,none⟩=some (.int .i64 Q.dep):=bR.cell 1
 have q2:W.cell? ⟨w.heap.size+1,2,none⟩=some (.int .i64 Q.lim):=bR.cell 2
 exact bodyPost_ret (v:=.agg #[.slice a3 Q.l.length c3,.int .i64 Q.dep,.int .i64 Q.lim]) (by simp [results,Tryz.results101,go_sem,q0,q1,q2,h2]) rfl ⟨_,rfl,hl,hb2⟩
set_option maxRecDepth 100000 in
set_option maxHeartbeats 4000000 in
theorem through_any (ds ss:List Nd) (v0 v1:Value) (w:World) (hd:SlIn w .D ds v0) (hs:SlIn w .S ss v1) :
    Calls Tryz.prog 101 #[.agg #[v0,v1]] w (fun e w'=>∃ v,e=.returned (.agg #[v,.int .i64 (progT ds ss).dep,.int .i64 (progT ds ss).lim])∧ListOf w w' (progT ds ss).l v∧Below w.heap.size w w'):=by
 have hpT:progT ds ss=if (tourL ds 1 ⟨[],0,0⟩).lim ≠ 0 then tourL ds 1 ⟨[],0,0⟩ else tourL ss 1 (tourL ds 1 ⟨[],0,0⟩):=rfl
 have h0:Tr.ok ⟨[],0,0⟩:=by unfold Tr.ok;simp
 obtain ⟨W1,hW1⟩:∃ W1,((w.alloc (.cells #[v0,v1] 25)).alloc (.cells #[.slice none 0 0,.int .i64 0,.int .i64 0] 169)).alloc (.cells #[.slice none 0 0,.int .i64 0,.int .i64 0] 169)=W1:=⟨_,rfl⟩
 have hb:Below w.heap.size w W1:=by
  rw [← hW1]
  exact (((Below.refl _ w).alloc (Nat.le_refl _) _).alloc (by simp) _).alloc (by simp;omega) _
 have hB1:Blk W1 (w.heap.size+2) #[.slice none 0 0,.int .i64 0,.int .i64 0] 169:=by
  have h:=Blk.new ((w.alloc (.cells #[v0,v1] 25)).alloc (.cells #[.slice none 0 0,.int .i64 0,.int .i64 0] 169)) #[.slice none 0 0,.int .i64 0,.int .i64 0] 169
  rw [hW1,World.size_alloc,World.size_alloc] at h
  exact h
 have hR1:Blk W1 (w.heap.size+1) #[.slice none 0 0,.int .i64 0,.int .i64 0] 169:=by
  have h:=(Blk.new (w.alloc (.cells #[v0,v1] 25)) #[.slice none 0 0,.int .i64 0,.int .i64 0] 169).alloc (.cells #[.slice none 0 0,.int .i64 0,.int .i64 0] 169)
  rw [hW1,World.size_alloc] at h
  exact h
 have hP1:Blk W1 w.heap.size #[v0,v1] 25:=by rw [← hW1];exact ((Blk.new w _ _).alloc _).alloc _
 have hT:TourIn w W1 (w.heap.size+2) ⟨[],0,0⟩ (.slice none 0 0):=⟨hB1,[],⟨rfl,.inl ⟨rfl,rfl⟩⟩,NodesAre.nil w⟩
 have hD:=topD_any w (w.heap.size+2) ds (fun i h=>walkOf_all w _ _ _ (Nat.le_refl _)) v0 ⟨[],0,0⟩ (.slice none 0 0) W1 hd hb (by omega) h0 rfl hT
 have HS:=Lib.hid (fun t v w1 (h1:Below w.heap.size w w1) (h2:t.ok) (h3:t.lim=0) (h4:TourIn w w1 (w.heap.size+2) t v)=>topS_any w (w.heap.size+2) ss (fun i h=>walkOf_all w _ _ _ (Nat.le_refl _)) v1 t v w1 hs h1 (by omega) h2 h3 h4)
 have hok1:=tourL_ok ds 1 ⟨[],0,0⟩ h0 (by omega)
 obtain ⟨t1,ht1⟩:∃ t1,tourL ds 1 ⟨[],0,0⟩=t1:=⟨_,rfl⟩
 rw [ht1] at hD hpT hok1
 obtain ⟨Q,hQ⟩:∃ Q,progT ds ss=Q:=⟨_,rfl⟩
 rw [hQ] at hpT ⊢
 clear hQ ht1
 obtain ⟨a0,c0,rfl,-⟩:=hd
 obtain ⟨a1,c1,rfl,-⟩:=hs
 have HD:=Lib.hid hD;clear hD
 have HB:=Lib.hid hb;clear hb
 have HW1:=Lib.hid hW1;clear hW1
 have e0:W1.cell? ⟨w.heap.size,0,none⟩=some (.slice a0 ds.length c0):=hP1.cell 0
 have HP1:=Lib.hid hP1;clear hP1
 have HR1:=Lib.hid hR1;clear hR1
 clear hB1
 have hne1:w.heap.size ≠ w.heap.size+2:=by omega
 have hne2:w.heap.size+1 ≠ w.heap.size+2:=by omega
 have HT:=Lib.hid hT;clear hT
 by_cases hz:t1.lim=0
 · rw [if_neg (by simpa using hz)] at hpT
   have HDZ:=Lib.hid (show decide (t1.lim=0)=true by simpa using hz)
   have HPT:=Lib.hid hpT;clear hpT
   have HOK:=Lib.hid hok1;clear hok1
   go_enter Tryz.func101,Tryz.ntmps101
   go_upto_region 2 with fail
   rw [HW1.out]
   clear HW1
   go_upto_region 4 with (first | (go_at_call 140;(with_reducible refine HD.out.mono ?_);rintro e w2 ⟨v2,rfl,h2,hf⟩;rw [HDZ.out]) | fail)
   have hb2:Below w.heap.size w w2:=HB.out.trans (hf.old (by omega) HB.out.size (fun g hg=>by cases hg))
   have hP2:=HP1.out.fr hf hne1 (fun h=>by cases h)
   have hR2:=HR1.out.fr hf hne2 (fun h=>by cases h)
   have HC:=Lib.hid (HS.out t1 v2 w2 hb2 HOK.out hz h2)
   rw [← HPT.out] at HC
   clear HD HS HP1 HR1
   have e1:w2.cell? ⟨w.heap.size,1,none⟩=some (.slice a1 ss.length c1):=hP2.cell 1
   have HB2:=Lib.hid hb2;clear hb2
   have HR2:=Lib.hid hR2;clear hR2
   have H2:=Lib.hid h2;clear h2
   have HF2:=Lib.hid hf;clear hf
   clear hP2
   go_upto_region 5 with (first | (go_at_call 142;(with_reducible refine HC.out.mono ?_);rintro e w3 ⟨v3,rfl,h3,hf⟩) | fail)
   have hR3:=HR2.out.fr hf hne2 (fun h=>by have:=(H2.out.row _ h.symm).1;omega)
   have hb3:Below w.heap.size w w3:=HB2.out.trans (hf.old (by omega) HB2.out.size (fun g hg=>(H2.out.row g hg).1))
   obtain ⟨a3,c3,rfl⟩:=h3.shape
   have l0:w3.cell? ⟨w.heap.size+2,0,none⟩=some (.slice a3 Q.l.length c3):=h3.blk.cell 0
   have l1:w3.cell? ⟨w.heap.size+2,1,none⟩=some (.int .i64 Q.dep):=h3.blk.cell 1
   have l2:w3.cell? ⟨w.heap.size+2,2,none⟩=some (.int .i64 Q.lim):=h3.blk.cell 2
   have hx0:w3.frozen? ⟨w.heap.size+1,0,none⟩=false:=hR3.free 0
   have hx1:w3.frozen? ⟨w.heap.size+1,1,none⟩=false:=hR3.free 1
   have hx2:w3.frozen? ⟨w.heap.size+1,2,none⟩=false:=hR3.free 2
   have hy0:w3.cell? ⟨w.heap.size+1,0,none⟩=some (.slice none 0 0):=hR3.cell 0
   have hy1:w3.cell? ⟨w.heap.size+1,1,none⟩=some (.int .i64 0):=hR3.cell 1
   have hy2:w3.cell? ⟨w.heap.size+1,2,none⟩=some (.int .i64 0):=hR3.cell 2
   have HB3:=Lib.hid hb3;clear hb3
   have HT3:=Lib.hid h3;clear h3
   have HR3:=Lib.hid hR3;clear hR3
   clear hf HF2 H2 HR2 HB2 HC e1 e0
   go_wp2_with fail
   exact through_end w w3 Q a3 c3 HT3.out HR3.out HB3.out rfl rfl
 · rw [if_pos (by simpa using hz)] at hpT
   subst hpT
   have HDZ:=Lib.hid (show decide (Q.lim=0)=false by simpa using hz)
   clear HS hok1
   go_enter Tryz.func101,Tryz.ntmps101
   go_upto_region 2 with fail
   rw [HW1.out]
   clear HW1
   go_upto_region 5 with (first | (go_at_call 140;(with_reducible refine HD.out.mono ?_);rintro e w3 ⟨v3,rfl,h3,hf⟩;rw [HDZ.out]) | fail)
   have hR3:=HR1.out.fr hf hne2 (fun h=>by cases h)
   have hb3:Below w.heap.size w w3:=HB.out.trans (hf.old (by omega) HB.out.size (fun g hg=>by cases hg))
   obtain ⟨a3,c3,rfl⟩:=h3.shape
   have l0:w3.cell? ⟨w.heap.size+2,0,none⟩=some (.slice a3 Q.l.length c3):=h3.blk.cell 0
   have l1:w3.cell? ⟨w.heap.size+2,1,none⟩=some (.int .i64 Q.dep):=h3.blk.cell 1
   have l2:w3.cell? ⟨w.heap.size+2,2,none⟩=some (.int .i64 Q.lim):=h3.blk.cell 2
   have hx0:w3.frozen? ⟨w.heap.size+1,0,none⟩=false:=hR3.free 0
   have hx1:w3.frozen? ⟨w.heap.size+1,1,none⟩=false:=hR3.free 1
   have hx2:w3.frozen? ⟨w.heap.size+1,2,none⟩=false:=hR3.free 2
   have hy0:w3.cell? ⟨w.heap.size+1,0,none⟩=some (.slice none 0 0):=hR3.cell 0
   have hy1:w3.cell? ⟨w.heap.size+1,1,none⟩=some (.int .i64 0):=hR3.cell 1
   have hy2:w3.cell? ⟨w.heap.size+1,2,none⟩=some (.int .i64 0):=hR3.cell 2
   have HB3:=Lib.hid hb3;clear hb3
   have HT3:=Lib.hid h3;clear h3
   have HR3:=Lib.hid hR3;clear hR3
   clear hf HD HP1 HR1 HB HT e0
   go_wp2_with fail
   exact through_end w w3 Q a3 c3 HT3.out HR3.out HB3.out rfl rfl
theorem fault_list (w0 w:World) (B:Nat) (t:Tr) (v:Value) (hB:Blk w B #[v,.int .i64 t.dep,.int .i64 t.lim] 169) (hl:ListOf w0 w t.l v) (hlm:t.l.length≤4096) :
    Calls Tryz.prog 102 #[.pointer (some ⟨B,0,none⟩)] w (fun e w'=>e=.returned (.int .i64 (faultT t))∧Below w.heap.size w w'):=by
 obtain ⟨a,b,c,rfl,hl0⟩:=hl
 have hl:t.l.length=0 ∨ (a=some ⟨b,0,none⟩∧CellsAre w0 w t.l b 0):=hl0.imp id (fun h=>⟨h.1,h.2.1⟩)
 clear hl0
 have c0:w.cell? ⟨B,0,none⟩=some (.slice a t.l.length c):=hB.cell 0
 have c2:w.cell? ⟨B,2,none⟩=some (.int .i64 t.lim):=hB.cell 2
 have hlt:=hB.lt
 clear hB
 by_cases hz:t.lim=0
 · have hz2:(t.lim != 0)=false:=by simpa using hz
   have hfa:faultT t=if t.l.any (fun x=>!wellN x) then 30 else if t.l.any namelessB then 31 else 0:=by unfold faultT;rw [if_neg (by simpa using hz)]
   have h1:=contains_formless w0 t.l b 0 c a w hlm hl
   have h2:=fun w1 (hb:Below w.heap.size w w1)=>contains_nameless w0 t.l b 0 c a w1 hlm (hl.imp id fun ⟨e,h⟩=>⟨e,h.keep hb⟩)
   have H2:=Lib.hid h2;clear h2 hl
   obtain ⟨p,hp⟩:∃ p,t.l.any (fun x=>!wellN x)=p:=⟨_,rfl⟩
   obtain ⟨q,hq⟩:∃ q,t.l.any namelessB=q:=⟨_,rfl⟩
   rw [hp,hq] at hfa
   rw [hp] at h1
   simp only [hq] at H2
   rw [hfa]
   clear hfa hp hq hz
   have H1:=Lib.hid h1;clear h1
   cases p with
   | true =>
     go_enter Tryz.func102,Tryz.ntmps102
     go_wp2_with (first | (go_at_call 144;(with_reducible refine H1.out.mono ?_);rintro e w1 ⟨rfl,hb⟩) | fail)
     go_ret
     exact ⟨rfl,hb⟩
   | false =>
     cases q with
     | true =>
       go_enter Tryz.func102,Tryz.ntmps102
       go_upto_if 13 with (first | (go_at_call 144;(with_reducible refine H1.out.mono ?_);rintro e w1 ⟨rfl,hb⟩) | fail)
       have k0:=(hb.cell (p:=⟨B,0,none⟩) hlt).trans c0
       have hc:=H2.out w1 hb
       have HC:=Lib.hid hc;clear hc
       have HB:=Lib.hid hb;clear hb
       go_wp2_with (first | (go_at_call 144;(with_reducible refine HC.out.mono ?_);rintro e w2 ⟨rfl,hb2⟩) | fail)
       go_ret
       exact ⟨rfl,HB.out.trans (hb2.mono HB.out.size)⟩
     | false =>
       go_enter Tryz.func102,Tryz.ntmps102
       go_upto_if 13 with (first | (go_at_call 144;(with_reducible refine H1.out.mono ?_);rintro e w1 ⟨rfl,hb⟩) | fail)
       have k0:=(hb.cell (p:=⟨B,0,none⟩) hlt).trans c0
       have hc:=H2.out w1 hb
       have HC:=Lib.hid hc;clear hc
       have HB:=Lib.hid hb;clear hb
       go_wp2_with (first | (go_at_call 144;(with_reducible refine HC.out.mono ?_);rintro e w2 ⟨rfl,hb2⟩) | fail)
       go_ret
       exact ⟨rfl,HB.out.trans (hb2.mono HB.out.size)⟩
 · have hz2:(t.lim != 0)=true:=by simpa using hz
   have hfa:faultT t=t.lim:=by unfold faultT;rw [if_pos (by simpa using hz)]
   rw [hfa]
   clear hfa hz hl
   go_enter Tryz.func102,Tryz.ntmps102
   go_wp2
   go_ret
   exact ⟨rfl,Below.refl _ w⟩
set_option maxRecDepth 100000 in
set_option maxHeartbeats 4000000 in
theorem tcheck_any (ds ss:List Nd) (v0 v1:Value) (w:World) (hd:SlIn w .D ds v0) (hs:SlIn w .S ss v1) :
    Calls Tryz.prog 52 #[.agg #[v0,v1]] w (fun e w'=>e=.returned (.int .i64 (faultT (progT ds ss)))∧Below w.heap.size w w'):=by
 have hlen:=(progT_ok ds ss).1
 have hb0:Below w.heap.size w (w.alloc (.cells #[v0,v1] 25)):=(Below.refl _ w).alloc (Nat.le_refl _) _
 have hT:=through_any ds ss v0 v1 (w.alloc (.cells #[v0,v1] 25)) (hd.keep (keeps_below hb0)) (hs.keep (keeps_below hb0))
 obtain ⟨Q,hQ⟩:∃ Q,progT ds ss=Q:=⟨_,rfl⟩
 rw [hQ] at hT hlen ⊢
 clear hQ
 obtain ⟨FT,hFT⟩:∃ FT,faultT Q=FT:=⟨_,rfl⟩
 rw [hFT]
 have HFT:=Lib.hid hFT;clear hFT
 obtain ⟨a0,c0,rfl,-⟩:=hd
 obtain ⟨a1,c1,rfl,-⟩:=hs
 obtain ⟨W0,hW0⟩:∃ W0,w.alloc (.cells #[.slice a0 ds.length c0,.slice a1 ss.length c1] 25)=W0:=⟨_,rfl⟩
 rw [hW0] at hT hb0
 have e0:W0.cell? ⟨w.heap.size,0,none⟩=some (.slice a0 ds.length c0):=by rw [← hW0];exact (Blk.new w _ _).cell 0
 have e1:W0.cell? ⟨w.heap.size,1,none⟩=some (.slice a1 ss.length c1):=by rw [← hW0];exact (Blk.new w _ _).cell 1
 have HT:=Lib.hid hT;clear hT
 have HB0:=Lib.hid hb0;clear hb0
 have HW0:=Lib.hid hW0;clear hW0
 go_enter Tryz.func52,Tryz.ntmps52
 go_upto_region 1 with fail
 rw [HW0.out]
 clear HW0
 go_upto_region 2 with (first | (go_at_call 101;(with_reducible refine HT.out.mono ?_);rintro e w1 ⟨v,rfl,hl,hb1⟩;obtain ⟨a,b,c,rfl,hl⟩:=hl;have HL:=Lib.hid hl;clear hl;have HB1:=Lib.hid (HB0.out.trans (hb1.mono HB0.out.size));clear hb1) | fail)
 have hX:Blk (w1.alloc (.cells #[.slice a Q.l.length c,.int .i64 Q.dep,.int .i64 Q.lim] 169)) w1.heap.size #[.slice a Q.l.length c,.int .i64 Q.dep,.int .i64 Q.lim] 169:=Blk.new w1 _ _
 have hb2:Below w.heap.size w (w1.alloc (.cells #[.slice a Q.l.length c,.int .i64 Q.dep,.int .i64 Q.lim] 169)):=HB1.out.alloc HB1.out.size _
 have hl2:ListOf W0 (w1.alloc (.cells #[.slice a Q.l.length c,.int .i64 Q.dep,.int .i64 Q.lim] 169)) Q.l (.slice a Q.l.length c):=ListOf.keep ⟨a,b,c,rfl,HL.out⟩ ((Below.refl _ w1).alloc (Nat.le_refl _) _)
 obtain ⟨W2,hW2⟩:∃ W2,w1.alloc (.cells #[.slice a Q.l.length c,.int .i64 Q.dep,.int .i64 Q.lim] 169)=W2:=⟨_,rfl⟩
 rw [hW2] at hX hb2 hl2 ⊢
 have HF:=Lib.hid (fault_list W0 W2 w1.heap.size Q _ hX hl2 hlen)
 rw [HFT.out] at HF
 clear HFT hl2 HL HB1 HT HB0 e0 e1 hW2
 have HB2:=Lib.hid hb2;clear hb2
 clear hX
 go_wp2_with (first | (go_at_call 102;(with_reducible refine HF.out.mono ?_);rintro e w3 ⟨rfl,hb3⟩) | fail)
 go_ret
 exact ⟨rfl,HB2.out.trans (hb3.mono HB2.out.size)⟩
mutual
def allN:Nd→List Nd
 | .mk ty k n nm xs cs ts es=>.mk ty k n nm xs cs ts es :: match ty with
   | .E=>allL xs
   | .C=>allL xs ++ allL cs
   | .S=>allL cs ++ (allL xs ++ (allL ts ++ allL es))
   | .D=>[]
def allL:List Nd→List Nd
 | []=>[]
 | x :: r=>allN x ++ allL r
end
theorem if_lim {a rest:Tr} (h:(if a.lim ≠ 0 then a else rest).lim=0):a.lim=0∧(if a.lim ≠ 0 then a else rest)=rest:=by
 by_cases hz:a.lim=0
 · exact ⟨hz,if_neg (by simpa using hz)⟩
 · rw [if_pos (by simpa using hz)] at h
   exact absurd h hz
theorem list_node {x:Nd} {d:Int} {t:Tr} (h:(nodeT x d t).lim=0):(nodeT x d t).l=t.l ++ [x]:=by
 unfold nodeT at h ⊢
 by_cases hz:byd t.l.length d=0
 · rw [if_neg (by simpa using hz)]
 · rw [if_pos (by simpa using hz)] at h
   exact absurd h hz
mutual
theorem list_N:∀ (x:Nd) (d:Int) (t:Tr),(tourN x d t).lim=0→(tourN x d t).l=t.l ++ allN x
 | .mk ty k n nm xs cs ts es,d,t,h=>by
   unfold tourN at h ⊢
   unfold allN
   obtain ⟨h1,e1⟩:=if_lim h
   rw [e1] at h ⊢
   have l1:=list_node h1
   cases ty with
   | E =>
     have h2:=list_L xs (d+1) _ h
     rw [l1,List.append_assoc] at h2
     exact h2
   | C =>
     obtain ⟨h2,e2⟩:=if_lim h
     have l2:=list_L xs (d+1) _ h2
     have e3:=congrArg Tr.lim e2
     have l3:=list_L cs (d+1) _ (e3.symm.trans h)
     rw [l2,l1] at l3
     exact (congrArg Tr.l e2).trans (l3.trans (by simp))
   | S =>
     obtain ⟨h2,e2⟩:=if_lim h
     have l2:=list_L cs (d+1) _ h2
     have g2:=(congrArg Tr.lim e2).symm.trans h
     obtain ⟨h3,e3⟩:=if_lim g2
     have l3:=list_L xs (d+1) _ h3
     have g3:=(congrArg Tr.lim e3).symm.trans g2
     obtain ⟨h4,e4⟩:=if_lim g3
     have l4:=list_L ts (d+1) _ h4
     have g4:=(congrArg Tr.lim e4).symm.trans g3
     have l5:=list_L es (d+1) _ g4
     rw [l4,l3,l2,l1] at l5
     exact (congrArg Tr.l e2).trans ((congrArg Tr.l e3).trans ((congrArg Tr.l e4).trans (l5.trans (by simp))))
   | D=>exact l1
theorem list_L:∀ (l:List Nd) (d:Int) (t:Tr),(tourL l d t).lim=0→(tourL l d t).l=t.l ++ allL l
 | [],d,t,_=>by unfold tourL allL;simp
 | x :: r,d,t,h=>by
   unfold tourL at h ⊢
   unfold allL
   obtain ⟨h1,e1⟩:=if_lim h
   rw [e1] at h ⊢
   rw [list_L r d _ h,list_N x d t h1,List.append_assoc]
end
mutual
def fitN:Nd→Prop
 | .mk ty k n s xs cs ts es=>fits ty k n s xs cs ts es∧fitL .E xs∧fitL .C cs∧fitL .S ts∧fitL .S es
def fitL:Ty→List Nd→Prop
 | _,[]=>True
 | ty,x :: r=>x.ty=ty∧fitN x∧fitL ty r
end
theorem fit_sl {w:World} {ty:Ty} {l:List Nd} {v:Value} (hL:∀ b o,RowIn w ty l b o→fitL ty l) (h:SlOf l.length (fun b o=>RowIn w ty l b o) v):fitL ty l:=by
 obtain ⟨a,c,_,_,_,h0 | ⟨b,o,_,hr⟩⟩:=h
 · obtain rfl:=List.eq_nil_of_length_eq_zero h0
   unfold fitL
   trivial
 · exact hL b o hr
mutual
theorem fit_N (w:World):∀ (x:Nd) (vs:List Value),NdIn w x vs→fitN x
 | .mk ty k n nm xs cs ts es,vs,h=>by
   unfold NdIn at h
   obtain ⟨hf,_,_,_,vx,vc,vt,ve,_,hx,hc,ht,he⟩:=h
   unfold fitN
   exact ⟨hf,fit_sl (fit_L w .E xs) hx,fit_sl (fit_L w .C cs) hc,fit_sl (fit_L w .S ts) ht,fit_sl (fit_L w .S es) he⟩
theorem fit_L (w:World):∀ (ty:Ty) (l:List Nd) (b o:Nat),RowIn w ty l b o→fitL ty l
 | _,[],_,_,_=>by unfold fitL;trivial
 | ty,x :: r,b,o,h=>by
   unfold RowIn at h
   obtain ⟨⟨h1,vs,_,h2⟩,h3⟩:=h
   unfold fitL
   exact ⟨h1,fit_N w x vs h2,fit_L w ty r (b+0) (o+ty.size) h3⟩
end
theorem fit_list {w:World} {ty:Ty} {l:List Nd} {v:Value} (h:SlIn w ty l v):fitL ty l:=fit_sl (fit_L w ty l) h
theorem allL_app (l m:List Nd):allL (l ++ m)=allL l ++ allL m:=by
 induction l with
 | nil=>rw [List.nil_append,allL,List.nil_append]
 | cons x r ih=>rw [List.cons_append,allL,allL,ih,List.append_assoc]
theorem progT_list {ds ss:List Nd} (h:(progT ds ss).lim=0):(progT ds ss).l=allL (ds ++ ss):=by
 unfold progT at h ⊢
 obtain ⟨h1,e1⟩:=if_lim h
 rw [e1] at h ⊢
 have l1:=list_L ds 1 ⟨[],0,0⟩ h1
 have l2:=list_L ss 1 _ h
 rw [l2,l1,allL_app]
 rfl
def fitA (l:List Nd):Prop:=∀ x ∈ l,fitN x
theorem fitA_of {ty:Ty}:∀ {l:List Nd},fitL ty l→fitA l
 | [],_=>fun x hx=>by cases hx
 | y :: r,h=>fun x hx=>by
   unfold fitL at h
   rcases List.mem_cons.1 hx with rfl | hx
   · exact h.2.1
   · exact fitA_of h.2.2 x hx
theorem ty_of {ty:Ty}:∀ {l:List Nd},fitL ty l→∀ x ∈ l,x.ty=ty
 | [],_=>fun x hx=>by cases hx
 | y :: r,h=>fun x hx=>by
   unfold fitL at h
   rcases List.mem_cons.1 hx with rfl | hx
   · exact h.1
   · exact ty_of h.2.2 x hx
def Gr (r r':Option Nat) (w w':World):Prop:=w.grownBy w' r∧(r'=r ∨ ∀ g,r'=some g→w.heap.size≤g)
theorem Gr.refl (r:Option Nat) (w:World):Gr r r w w:=⟨World.grownBy.refl w r,.inl rfl⟩
theorem Gr.trans {r0 r1 r2:Option Nat} {a b c:World} (h:Gr r0 r1 a b) (k:Gr r1 r2 b c):Gr r0 r2 a c:=by
 refine ⟨h.1.andThen k.1 (fun j hj=>?_),?_⟩
 · rcases h.2 with h1 | h1
   · exact .inr (by rw [← h1];exact hj)
   · exact .inl (h1 j hj)
 · rcases k.2 with h2 | h2
   · rw [h2];exact h.2
   · exact .inr fun g hg=>Nat.le_trans h.1.size (h2 g hg)
theorem Gr.below {r:Option Nat} {w w':World} (h:Below w.heap.size w w'):Gr r r w w':=⟨⟨h.os,h.tape,h.output,h.size,fun k hk _=>h.block k hk⟩,.inl rfl⟩
theorem Gr.size {r r':Option Nat} {w w':World} (h:Gr r r' w w'):w.heap.size≤w'.heap.size:=h.1.size
theorem Gr.alloc {r r':Option Nat} {a w:World} (h:Gr r r' a w) (o:Obj):Gr r r' a (w.alloc o):=h.trans (Gr.below ((Below.refl _ w).alloc (Nat.le_refl _) o))
theorem Gr.drew {r r':Option Nat} {a w:World} (h:Gr r r' a w):Gr r r' a w.drew:=h.trans (Gr.below (Below.refl _ w).drew)
theorem Gr.old {B0:Nat} {r r':Option Nat} {w w':World} (h:Gr r r' w w') (h1:B0≤w.heap.size) (hr:∀ g,r=some g→B0≤g):Below B0 w w' :=
 ⟨h.1.os,h.1.tape,h.1.output,h.1.size,fun k hk=>h.1.block k (by omega) (fun e=>by have:=hr k e.symm;omega)⟩
theorem Blk.gr {r r':Option Nat} {w w':World} {b:Nat} {cs:Array Value} {t:TypeId} (h:Blk w b cs t) (ho:Gr r r' w w') (hr:r ≠ some b):Blk w' b cs t:=(ho.1.block b h.lt (fun e=>hr e.symm)).trans h
theorem gr_grown {a w w':World} {r row r':Option Nat} (h:Gr r row a w) (hg:w.grownBy w' row) (hr:r'=row ∨ ∀ g,r'=some g→w.heap.size≤g):Gr r r' a w':=h.trans ⟨hg,hr⟩
theorem ownsRow_below {w w':World} {base:Nat} {e:TypeId} {size n:Nat} {v:Value} {xs:List Value} (h:w.ownsRow base e size v n xs) (hb:Below w.heap.size w w'):w'.ownsRow base e size v n xs :=
 h.kept (row:=none) ⟨hb.os,hb.tape,hb.output,hb.size,fun k hk _=>hb.block k hk⟩ (by cases hv:v.ownBlock <;> simp)
theorem own_new {x:Option Nat} {gg k n cap:Nat} (hat:x=some gg ∨ gg=k):(Value.slice (some ⟨gg,0,none⟩) n cap).ownBlock=x ∨ ∀ g,(Value.slice (some ⟨gg,0,none⟩) n cap).ownBlock=some g→k≤g:=by
 rcases hat with h | h
 · exact .inl h.symm
 · right
   intro g hg
   have e:gg=g:=by simpa [Value.ownBlock] using hg
   omega
abbrev Us:=ByteArray × Bool
def headU (nm:ByteArray) (a b:Bool):List Us:=if a || b then [(nm,b)] else []
mutual
def usesN:Nd→List Us
 | .mk ty k _ nm xs cs ts es=>match ty with
   | .E=>headU nm (k == 2) (k == 4) ++ usesL xs
   | .C=>usesL xs ++ usesL cs
   | .S=>headU nm (k == 1) (k == 2) ++ (usesL cs ++ (usesL xs ++ (usesL ts ++ usesL es)))
   | .D=>[]
def usesL:List Nd→List Us
 | []=>[]
 | x :: r=>usesN x ++ usesL r
end
theorem usesL_app:∀ (l m:List Nd),usesL (l ++ m)=usesL l ++ usesL m
 | [],m=>by simp [usesL]
 | x :: r,m=>by rw [List.cons_append,usesL,usesL,usesL_app r m,List.append_assoc]
theorem usesL_take {l:List Nd} {i:Nat} (hi:i < l.length):usesL (l.take (i+1))=usesL (l.take i) ++ usesN l[i]:=by
 rw [← List.take_append_getElem hi,usesL_app]
 simp [usesL]
theorem usesL_take_le {l:List Nd} (i:Nat):(usesL (l.take i)).length≤(usesL l).length:=by
 conv=>rhs;rw [← List.take_append_drop i l,usesL_app]
 simp
theorem usesL_at_le {l:List Nd} {i:Nat} (hi:i < l.length):(usesL (l.take i)).length+(usesN l[i]).length≤(usesL l).length:=by
 have h:=usesL_take_le (l:=l) (i+1)
 rw [usesL_take hi,List.length_append] at h
 exact h
theorem info_str:(Tryz.prog.info? 9).map (fun i=>(i.zero,i.size,i.bytes))=some (some (.string ⟨#[]⟩),1,16):=by kernel_rfl
end Go.Proofs.YtmohmggnjldddaaGreatDoor
