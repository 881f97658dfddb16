/-
  Plain: what is so of each node of a well program: its parts, its names' places, its op.
-/
import Derived.Test.YtmohmggnjldddaaGreatDoorQStK
import Derived.Test.YtmohmggnjldddaaGreatDoorQRegM
import Derived.Test.YtmohmggnjldddaaGreatDoorQCfgF
import Derived.Test.YtmohmggnjldddaaGreatDoorQAbb
namespace Go.Proofs.YtmohmggnjldddaaGreatDoor
set_option maxHeartbeats 8000000
set_option maxRecDepth 100000
open Go Go.RowKit Go.Maps
theorem results_row_tmp2 {P:Program} {fn:Func} {p u v:Tmp} {ty:TypeId} (h:fn.results=#[.cell p ty,.tmp u,.tmp v]) (tmps:Array Value) (w:World) (g:Nat) (t:TypeId) (cs:Array Value) (fr:Nat × Nat) (d:TypeDesc)
    (hp:tmps.getD p undef=.pointer (some ⟨g,0,none⟩)) (hg:w.heap[g]?=some (.cells cs t fr))
    (hu:P.underlying ty=some d) (hd:(match d with | .struct _ | .array _ _=>true | _=>false)=true) (hi:(P.info? ty).map (·.size)=some cs.size) :
    (results fn tmps).run P w=.ok (.tuple #[.agg cs,tmps.getD u undef,tmps.getD v undef]) w:=by
 have hp':tmps[p]?.getD undef=.pointer (some ⟨g,0,none⟩):=by simpa using hp
 simp only [results,h]
 simp [Result.andThen,hp',asAddr,run_loadVar_row w g t ty cs fr d hg hu hd hi]
def SameB (M:Nat) (w w':World):Prop:=M<w.heap.size∧M<w'.heap.size∧w'.heap[M]?=w.heap[M]?
theorem sameB_refl {M:Nat} {w:World} (h:M<w.heap.size):SameB M w w:=⟨h,h,rfl⟩
theorem sameB_drew {M:Nat} {w w':World} (h:SameB M w w'):SameB M w w'.drew:=h
theorem sameB_next {M:Nat} {w w' w'':World} (h:SameB M w w') (hb:Below w'.heap.size w' w''):SameB M w w'':=⟨h.1,Nat.lt_of_lt_of_le h.2.1 hb.size,(hb.block M h.2.1).trans h.2.2⟩
def Jn (wd:World) (F:Nat→Nat→World→Prop) (ov:Nat→Nat→Value) (pw:Nat→Nat→World→World) (l:Array Bool) (R:Value) (w':World):Prop :=
 (l.getD 1 false=false∧l.getD 6 false=false∧w'=wd)∨(l.getD 1 false=true∧l.getD 6 false=false∧∃ d cc,R=ov d cc∧F d cc w')∨(l.getD 1 false=true∧l.getD 6 false=true∧∃ d cc w7,R=ov d cc∧F d cc w7∧w'=pw d cc w7)
def Fn (w6:World) (Y NV:Nat) (vs:List Int) (d cc:Nat) (w7:World):Prop:=Below w6.heap.size w6 w7∧w6.heap.size≤d∧NV≤cc∧cc≤maxLen∧(∀ i,i<NV→w7.cell? ⟨d,i,none⟩=some (.int .i64 ((vs.take NV).getD i 0)))∧Blk w7 Y #[.int .i64 0,.int .i64 0,.int .i64 0,.slice none 0 0,.slice none 0 0,.slice none 0 0] 47
abbrev ovN (o1 o2 ST:Int) (NV:Nat) (ve va:Value) (d cc:Nat):Value:=.agg #[.int .i64 o1,.int .i64 o2,.int .i64 ST,ve,.slice (some ⟨d,0,none⟩) NV cc,va]
theorem Jn.keep {wd:World} {F:Nat→Nat→World→Prop} {ov:Nat→Nat→Value} {pw:Nat→Nat→World→World} {l:Array Bool} {R:Value} {w':World} (h:Jn wd F ov pw l R w') {i:Nat} (h1:i≠1) (h6:i≠6):Jn wd F ov pw (l.setIfInBounds i true) R w':=by
 unfold Jn at h ⊢
 rw [getD_set_ne false h1,getD_set_ne false h6]
 exact h
theorem Jn.first {wd:World} {F:Nat→Nat→World→Prop} {ov:Nat→Nat→Value} {pw:Nat→Nat→World→World} {l:Array Bool} {R:Value} {w':World} (h:Jn wd F ov pw l R w') (h0:l.getD 1 false=false):l.getD 6 false=false∧w'=wd:=by
 rcases h with ⟨-,a,b⟩ | ⟨a,-⟩ | ⟨a,-⟩
 · exact ⟨a,b⟩
 · rw [h0] at a;cases a
 · rw [h0] at a;cases a
theorem Jn.second {wd:World} {F:Nat→Nat→World→Prop} {ov:Nat→Nat→Value} {pw:Nat→Nat→World→World} {l:Array Bool} {R:Value} {w':World} (h:Jn wd F ov pw l R w') (h1:l.getD 1 false=true) (h6:l.getD 6 false=false):∃ d cc,R=ov d cc∧F d cc w':=by
 rcases h with ⟨a,-⟩ | ⟨-,-,a⟩ | ⟨-,a,-⟩
 · rw [h1] at a;cases a
 · exact a
 · rw [h6] at a;cases a
theorem Jn.done {wd:World} {F:Nat→Nat→World→Prop} {ov:Nat→Nat→Value} {pw:Nat→Nat→World→World} {l:Array Bool} {R:Value} {w':World} (h:Jn wd F ov pw l R w') (h6:l.getD 6 false=true):∃ d cc w7,R=ov d cc∧F d cc w7∧w'=pw d cc w7:=by
 rcases h with ⟨-,a,-⟩ | ⟨-,a,-⟩ | ⟨-,-,a⟩
 · rw [h6] at a;cases a
 · rw [h6] at a;cases a
 · exact a
theorem Jn.cell {wd:World} {F:Nat→Nat→World→Prop} {ov:Nat→Nat→Value} {pw:Nat→Nat→World→World} {l:Array Bool} {R:Value} {w':World} {M Y o:Nat} {u:Value} (hne:M≠Y) (hd:wd.cell? ⟨M,o,none⟩=some u) (hF:∀ d cc w7,F d cc w7→w7.cell? ⟨M,o,none⟩=some u) (hp:∀ d cc w7,Only Y w7 (pw d cc w7)) (h:Jn wd F ov pw l R w'):w'.cell? ⟨M,o,none⟩=some u:=by
 rcases h with ⟨-,-,rfl⟩ | ⟨-,-,d,cc,-,h⟩ | ⟨-,-,d,cc,w7,-,h,rfl⟩
 · exact hd
 · exact hF _ _ _ h
 · exact only_cell (hp d cc w7) (hF _ _ _ h) hne
theorem vs_one {p0 p2 p3 p4 p5 p6 p7 p8:Value} (R R':Value) (j:Nat) (h:j≠1):valsAt [p0,R,p2,p3,p4,p5,p6,p7,p8] j=valsAt [p0,R',p2,p3,p4,p5,p6,p7,p8] j:=by
 rcases j with _ | _ | j
 · rfl
 · exact absurd rfl h
 · rfl
theorem stepRun_any (g:Gf) (av aa ae:Option Addr) (cv ca ce:Nat) (sc:List Int) (vs:Value) (k:Int) (w:World) (hg:GrIn w g (.slice av g.vs.length cv) (.slice aa g.ar.length ca) (.slice ae g.es.length ce)) (hnv:g.vs.length≤9223372036854775807) (htab:TabF w) (hfe:∀ e ∈ g.es,fitsI e.an∧fitsI e.bn) (hsc:IntsAt w w.heap.size sc vs) (hfs:∀ x ∈ sc,fitsI x) :
    Calls Tryz.prog 12 #[grS g av cv aa ca ae ce,vs,.int .i64 k] w (SRunTo w g sc k):=by
 obtain ⟨X,hX⟩:∃ X,w.heap.size=X:=⟨_,rfl⟩
 obtain ⟨W1,hW1⟩:∃ W1,w.alloc (.cells (grB g av cv aa ca ae ce) 30)=W1:=⟨_,rfl⟩
 have hx1:Blk W1 X (grB g av cv aa ca ae ce) 30:=by rw [← hW1,← hX];exact Blk.new w _ _
 have hb1:Below w.heap.size w W1:=by rw [← hW1];exact (Below.refl _ w).alloc (Nat.le_refl _) _
 obtain ⟨Y,hY⟩:∃ Y,W1.heap.size=Y:=⟨_,rfl⟩
 obtain ⟨W2,hW2⟩:∃ W2,W1.alloc (.cells #[.int .i64 0,.int .i64 0,.int .i64 0,.slice none 0 0,.slice none 0 0,.slice none 0 0] 47)=W2:=⟨_,rfl⟩
 have hx2:Blk W2 X (grB g av cv aa ca ae ce) 30:=by rw [← hW2];exact hx1.alloc _
 have hy2:Blk W2 Y #[.int .i64 0,.int .i64 0,.int .i64 0,.slice none 0 0,.slice none 0 0,.slice none 0 0] 47:=by rw [← hW2,← hY];exact Blk.new W1 _ _
 have hb2:Below w.heap.size w W2:=by rw [← hW2];exact hb1.alloc hb1.size _
 have hXY:X<Y:=by have:=hx1.lt;omega
 have z0:W2.cell? ⟨X,0,none⟩=some (.slice av g.vs.length cv):=hx2.cell 0
 have z1:W2.cell? ⟨X,1,none⟩=some (.int .i64 g.tmp):=hx2.cell 1
 have z2:W2.cell? ⟨X,2,none⟩=some (.slice aa g.ar.length ca):=hx2.cell 2
 have z3:W2.cell? ⟨X,3,none⟩=some (.int .i64 g.pts):=hx2.cell 3
 have z4:W2.cell? ⟨X,4,none⟩=some (.int .i64 g.ext):=hx2.cell 4
 have z5:W2.cell? ⟨X,5,none⟩=some (.slice ae g.es.length ce):=hx2.cell 5
 have HC:=zh (check_any g av aa ae cv ca ce W2 (hg.next hb2) hnv (htab.next hb2))
 have H2:=zh (za hx2 (za hy2 (za hb2 hXY)))
 have HIN:=zh (za hg (za hfe (za hsc hfs)))
 have HX:=zh (za hX hY)
 have HW1:=zh hW1
 have HW2:=zh hW2
 have HXY1:=zh (show X+1=Y by rw [← HX.out.2,← HW1.out,World.size_alloc,HX.out.1])
 have hvf:∃ a n c,vs=.slice a n c∧n=sc.length:=by obtain ⟨a,c,h,-⟩:=hsc;exact ⟨a,_,c,h,rfl⟩
 obtain ⟨asc,_,csc,rfl,rfl⟩:=hvf
 clear hx1 hb1 hx2 hy2 hb2 hXY hg hnv htab hfe hsc hfs hX hY hW1 hW2
 obtain ⟨F,hF⟩:∃ f,srunF g sc k=f:=⟨_,rfl⟩
 unfold SRunTo
 rw [hF]
 unfold srunF at hF
 obtain ⟨WE,hWE⟩:∃ e,chkG g=e:=⟨_,rfl⟩
 rw [hWE] at hF HC
 by_cases hz:WE=0
 · subst hz
   simp only [ne_eq,not_true_eq_false,if_false] at hF
   have HCK:=zh hWE
   clear hWE
   by_cases hbad:k<0∨65536<k∨65536<sc.length
   · rw [if_pos hbad] at hF
     subst hF
     have HBAD:=zh (show ¬ (80:Int)=0 by decide)
     have hcase:k<0∨(¬ k<0∧65536<k)∨(¬ k<0∧¬ 65536<k∧65536<sc.length):=by omega
     clear hbad HIN
     rcases hcase with h1 | ⟨h1,h2⟩ | ⟨h1,h2,h3⟩
     · have t1:decide (k<0)=true:=by simpa using h1
       go_enter Tryz.func12,Tryz.ntmps12
       go_upto_region 1 with fail
       rw [HX.out.1,HW1.out,HXY1.out,HW2.out]
       go_upto_region 2 with (first | (go_at_call 29;(with_reducible refine HC.out.mono ?_);rintro e w3 ⟨rfl,hb3⟩;have HB3:=zh hb3;clear hb3) | fail)
       have hy7:=H2.out.2.1.next HB3.out
       have y0:w3.cell? ⟨Y,0,none⟩=some (.int .i64 0):=hy7.cell 0
       have g0:=hy7.free 0
       have y1:w3.cell? ⟨Y,1,none⟩=some (.int .i64 0):=hy7.cell 1
       have g1:=hy7.free 1
       have y2:w3.cell? ⟨Y,2,none⟩=some (.int .i64 0):=hy7.cell 2
       have g2:=hy7.free 2
       have y3:w3.cell? ⟨Y,3,none⟩=some (.slice none 0 0):=hy7.cell 3
       have g3:=hy7.free 3
       have y4:w3.cell? ⟨Y,4,none⟩=some (.slice none 0 0):=hy7.cell 4
       have g4:=hy7.free 4
       have y5:w3.cell? ⟨Y,5,none⟩=some (.slice none 0 0):=hy7.cell 5
       have g5:=hy7.free 5
       have HY4:=zh hy7
       clear hy7 z0 z1 z2 z3 z4 z5
       go_wp2_with fail
       have hb:=put6_blk HY4.out (.int .i64 0) (.int .i64 0) (.int .i64 0) (.slice none 0 0) (.slice none 0 0) (.slice none 0 0)
       refine bodyPost_ret (results_row_tmp2 rfl _ _ Y _ #[.int .i64 0,.int .i64 0,.int .i64 0,.slice none 0 0,.slice none 0 0,.slice none 0 0] _ _ rfl hb rfl rfl (by kernel_rfl)) rfl ?_
       exact ⟨zeroO,0,rfl,(H2.out.2.2.1.trans (HB3.out.mono H2.out.2.2.1.size)).trans ((put6_only w3 Y _ _ _ _ _ _).old (by have h1:=HX.out.1;have h2:=H2.out.2.2.2;omega) (by have:=HB3.out.size;have:=H2.out.2.2.1.size;omega)),fun h=>absurd h HBAD.out,fun _=>⟨rfl,rfl⟩⟩
     · have t1:decide (k<0)=false:=by simpa using h1
       have t2:decide (65536<k)=true:=by simpa using h2
       go_enter Tryz.func12,Tryz.ntmps12
       go_upto_region 1 with fail
       rw [HX.out.1,HW1.out,HXY1.out,HW2.out]
       go_upto_region 2 with (first | (go_at_call 29;(with_reducible refine HC.out.mono ?_);rintro e w3 ⟨rfl,hb3⟩;have HB3:=zh hb3;clear hb3) | fail)
       have hy7:=H2.out.2.1.next HB3.out
       have y0:w3.cell? ⟨Y,0,none⟩=some (.int .i64 0):=hy7.cell 0
       have g0:=hy7.free 0
       have y1:w3.cell? ⟨Y,1,none⟩=some (.int .i64 0):=hy7.cell 1
       have g1:=hy7.free 1
       have y2:w3.cell? ⟨Y,2,none⟩=some (.int .i64 0):=hy7.cell 2
       have g2:=hy7.free 2
       have y3:w3.cell? ⟨Y,3,none⟩=some (.slice none 0 0):=hy7.cell 3
       have g3:=hy7.free 3
       have y4:w3.cell? ⟨Y,4,none⟩=some (.slice none 0 0):=hy7.cell 4
       have g4:=hy7.free 4
       have y5:w3.cell? ⟨Y,5,none⟩=some (.slice none 0 0):=hy7.cell 5
       have g5:=hy7.free 5
       have HY4:=zh hy7
       clear hy7 z0 z1 z2 z3 z4 z5
       go_wp2_with fail
       have hb:=put6_blk HY4.out (.int .i64 0) (.int .i64 0) (.int .i64 0) (.slice none 0 0) (.slice none 0 0) (.slice none 0 0)
       refine bodyPost_ret (results_row_tmp2 rfl _ _ Y _ #[.int .i64 0,.int .i64 0,.int .i64 0,.slice none 0 0,.slice none 0 0,.slice none 0 0] _ _ rfl hb rfl rfl (by kernel_rfl)) rfl ?_
       exact ⟨zeroO,0,rfl,(H2.out.2.2.1.trans (HB3.out.mono H2.out.2.2.1.size)).trans ((put6_only w3 Y _ _ _ _ _ _).old (by have h1:=HX.out.1;have h2:=H2.out.2.2.2;omega) (by have:=HB3.out.size;have:=H2.out.2.2.1.size;omega)),fun h=>absurd h HBAD.out,fun _=>⟨rfl,rfl⟩⟩
     · have t1:decide (k<0)=false:=by simpa using h1
       have t2:decide (65536<k)=false:=by simpa using h2
       have t3:decide ((65536:Int)<(sc.length:Int))=true:=by simp only [decide_eq_true_eq];omega
       go_enter Tryz.func12,Tryz.ntmps12
       go_upto_region 1 with fail
       rw [HX.out.1,HW1.out,HXY1.out,HW2.out]
       go_upto_region 2 with (first | (go_at_call 29;(with_reducible refine HC.out.mono ?_);rintro e w3 ⟨rfl,hb3⟩;have HB3:=zh hb3;clear hb3) | fail)
       have hy7:=H2.out.2.1.next HB3.out
       have y0:w3.cell? ⟨Y,0,none⟩=some (.int .i64 0):=hy7.cell 0
       have g0:=hy7.free 0
       have y1:w3.cell? ⟨Y,1,none⟩=some (.int .i64 0):=hy7.cell 1
       have g1:=hy7.free 1
       have y2:w3.cell? ⟨Y,2,none⟩=some (.int .i64 0):=hy7.cell 2
       have g2:=hy7.free 2
       have y3:w3.cell? ⟨Y,3,none⟩=some (.slice none 0 0):=hy7.cell 3
       have g3:=hy7.free 3
       have y4:w3.cell? ⟨Y,4,none⟩=some (.slice none 0 0):=hy7.cell 4
       have g4:=hy7.free 4
       have y5:w3.cell? ⟨Y,5,none⟩=some (.slice none 0 0):=hy7.cell 5
       have g5:=hy7.free 5
       have HY4:=zh hy7
       clear hy7 z0 z1 z2 z3 z4 z5
       go_wp2_with fail
       have hb:=put6_blk HY4.out (.int .i64 0) (.int .i64 0) (.int .i64 0) (.slice none 0 0) (.slice none 0 0) (.slice none 0 0)
       refine bodyPost_ret (results_row_tmp2 rfl _ _ Y _ #[.int .i64 0,.int .i64 0,.int .i64 0,.slice none 0 0,.slice none 0 0,.slice none 0 0] _ _ rfl hb rfl rfl (by kernel_rfl)) rfl ?_
       exact ⟨zeroO,0,rfl,(H2.out.2.2.1.trans (HB3.out.mono H2.out.2.2.1.size)).trans ((put6_only w3 Y _ _ _ _ _ _).old (by have h1:=HX.out.1;have h2:=H2.out.2.2.2;omega) (by have:=HB3.out.size;have:=H2.out.2.2.1.size;omega)),fun h=>absurd h HBAD.out,fun _=>⟨rfl,rfl⟩⟩
   · rw [if_neg hbad] at hF
     subst hF
     have hk1:¬ k<0:=by omega
     have hk2:¬ 65536<k:=by omega
     have hk3:¬ 65536<sc.length:=by omega
     have t1:decide (k<0)=false:=by simpa using hk1
     have t2:decide (65536<k)=false:=by simpa using hk2
     have t3:decide ((65536:Int)<(sc.length:Int))=false:=by simp only [decide_eq_false_iff_not];omega
     obtain ⟨kn,hkn⟩:∃ kn:Nat,k=(kn:Int):=⟨k.toNat,by omega⟩
     subst hkn
     have hkl:kn≤65536:=by omega
     have HKL:=zh hkl
     clear hbad hk1 hk2 hk3 hkl
     go_enter Tryz.func12,Tryz.ntmps12
     go_upto_region 1 with fail
     rw [HX.out.1,HW1.out,HXY1.out,HW2.out]
     go_upto_region 2 with (first | (go_at_call 29;(with_reducible refine HC.out.mono ?_);rintro e w3 ⟨rfl,hb3⟩;have HB3:=zh hb3;clear hb3) | fail)
     have hb3w:Below w.heap.size w w3:=H2.out.2.2.1.trans (HB3.out.mono H2.out.2.2.1.size)
     have hx3:=H2.out.1.next HB3.out
     have x0:w3.cell? ⟨X,0,none⟩=some (.slice av g.vs.length cv):=hx3.cell 0
     have x1:w3.cell? ⟨X,1,none⟩=some (.int .i64 g.tmp):=hx3.cell 1
     have x2:w3.cell? ⟨X,2,none⟩=some (.slice aa g.ar.length ca):=hx3.cell 2
     have x3:w3.cell? ⟨X,3,none⟩=some (.int .i64 g.pts):=hx3.cell 3
     have x4:w3.cell? ⟨X,4,none⟩=some (.int .i64 g.ext):=hx3.cell 4
     have x5:w3.cell? ⟨X,5,none⟩=some (.slice ae g.es.length ce):=hx3.cell 5
     have HN:=zh (new_st g av aa ae cv ca ce sc (.slice asc sc.length csc) w3 (HIN.out.1.next hb3w) HCK.out HIN.out.2.1 (HIN.out.2.2.1.up hb3w hb3w.size) HIN.out.2.2.2)
     have HBW:=zh hb3w
     clear hb3w hx3 z0 z1 z2 z3 z4 z5
     go_upto_region 7 with (first | (go_at_call 30;(with_reducible refine HN.out.mono ?_);rintro e w5 ⟨K,hk,rfl,hH0,hB1,hr0,hva,rfl,hb5,sv0,ve0,hm5⟩;have HK:=zh (za hk (za hH0 (za hr0 (za hva (za hb5 hm5)))));clear hk hH0 hB1 hr0 hva hb5 hm5) | fail)
     obtain ⟨R,hR⟩:∃ R,finG kn K.g.es ((0:Nat):Int) (startG K.g sc)=R:=⟨_,rfl⟩
     have HRN:=zh (mrun_any K HK.out.1 w5 0 0 _ sv0 ve0 HK.out.2.2.2.2.2 kn HKL.out (Nat.zero_le _))
     rw [hR] at HRN
     have HRR:=zh hR
     clear x0 x1 x2 x3 x4 x5 hR HN
     go_upto_region 8 with (first | (go_at_call 31;(with_reducible refine HRN.out.mono ?_);rintro e w6 ⟨rfl,hkp,q,sv1,ve1,hq,hm6⟩;have H6:=zh (za hkp (za hq hm6));clear hkp hq hm6) | fail)
     obtain ⟨o1,o2,o3,o4⟩:=R
     obtain ⟨hkp,hq,hm6⟩:=H6.out
     simp only at hq hm6
     subst hq
     obtain ⟨ea,ec,rfl,-⟩:=own_len hm6.evs
     obtain ⟨ra,rc,hva,hrc,hrm⟩:=HK.out.2.2.2.1
     have hYH:Y<K.H0:=by rw [HK.out.2.1];exact Nat.lt_of_lt_of_le H2.out.2.1.lt HB3.out.size
     have hb56:Below K.H0 w5 w6:=hkp.old HK.out.1 (by rw [HK.out.2.1];exact HK.out.2.2.2.2.1.size)
     have hb36:Below K.H0 w3 w6:=Below.trans (by rw [HK.out.2.1];exact HK.out.2.2.2.2.1) hb56
     have hy6:Blk w6 Y #[.int .i64 0,.int .i64 0,.int .i64 0,.slice none 0 0,.slice none 0 0,.slice none 0 0] 47:=Blk.below (H2.out.2.1.next HB3.out) hb36 hYH
     have HOT:=zh (fun W (hb:Below w6.heap.size w6 W)=>by have h:=outcome_st K HK.out.1 W q o1 o2 o4 sv1 _ (hm6.next HK.out.1 hb);unfold OutV at h;rw [hva] at h;exact h)
     have hste:o4.steps≤kn:=by
      have h:=fin_steps kn K.g.es (kn+1 - 0) 0 (startG K.g sc) (Nat.zero_le _)
      have e:=HRR.out
      unfold finG at e
      rw [show (startG K.g sc).steps=0 from rfl] at e
      rw [show ((0:Nat):Int)=0 from rfl] at e
      rw [e] at h
      exact h
     have hsr:srunG K.g sc (kn:Int)=(o1,o2,(q:Int),o4):=by
      unfold srunG
      rw [Int.toNat_natCast]
      exact HRR.out
     have hcapv:∃ a c,K.va=.slice a K.ab.length c∧K.ab.length≤c∧c≤maxLen:=⟨ra,rc,hva,hrc,hrm⟩
     have KS:∀ w',SameB K.M w6 w'→w'.cell? ⟨K.M,25,none⟩=some (.int .i64 (q:Int)):=fun w' hW=>(World.cell?_of_block (w:=w6) (a:=⟨K.M,25,none⟩) hW.2.2).trans (hm6.mach.cell 25)
     have hMl:K.M<w6.heap.size:=hm6.mach.lt
     have hMY:K.M≠Y:=by have:=HK.out.1.m0;omega
     have HY6:=zh (za hy6 (za hb36 (za hYH (za hva (za hste (za hsr (za hm6 hcapv)))))))
     obtain ⟨NE,hNE⟩:∃ n,o4.evs.length=n:=⟨_,rfl⟩
     rw [hNE] at HOT
     obtain ⟨NV,hNV⟩:∃ n,K.g.vs.length=n:=⟨_,rfl⟩
     rw [hNV] at HOT
     obtain ⟨ST,hST⟩:∃ n:Int,((o4.steps:Nat):Int)=n:=⟨_,rfl⟩
     rw [hST] at HOT
     obtain ⟨NA,hNA⟩:∃ n,K.ab.length=n:=⟨_,rfl⟩
     rw [hNA] at HOT
     have HLT:=zh (za hNV (za hST hNA))
     have HNE:=zh hNE
     clear hva hrc hrm hYH hb56 hb36 hy6 hste hsr hcapv hkp hm6 HRN hNE hNV hST hNA
     go_cut [7,8] (fun s7 s8 wx=>s7=.int .i64 (q:Int)∧s8=.int .i64 0∧∃ d cc w7,wx=put6 w7 Y (.int .i64 o1) (.int .i64 o2) (.int .i64 ST) (.slice ea NE ec) (.slice (some ⟨d,0,none⟩) NV cc) (.slice ra NA rc)∧Below w6.heap.size w6 w7∧w6.heap.size≤d∧NV≤cc∧cc≤maxLen∧(∀ i,i<NV→w7.cell? ⟨d,i,none⟩=some (.int .i64 ((o4.vars.take NV).getD i 0)))∧Blk w7 Y #[.int .i64 0,.int .i64 0,.int .i64 0,.slice none 0 0,.slice none 0 0,.slice none 0 0] 47)
     case first =>
      have c25:w6.drew.cell? ⟨K.M,25,none⟩=some (.int .i64 (q:Int)):=KS _ (sameB_drew (sameB_refl hMl))
      have HF:∀ d cc w7,Fn w6 Y NV o4.vars d cc w7→w7.cell? ⟨K.M,25,none⟩=some (.int .i64 (q:Int)):=fun d cc w7 h=>KS _ (sameB_next (sameB_refl hMl) h.1)
      have HJ25:=zh (fun l R w' (h:Jn w6.drew (Fn w6 Y NV o4.vars) (ovN o1 o2 ST NV (.slice ea NE ec) (.slice ra NA rc)) (fun d cc w7=>put6 w7 Y (.int .i64 o1) (.int .i64 o2) (.int .i64 ST) (.slice ea NE ec) (.slice (some ⟨d,0,none⟩) NV cc) (.slice ra NA rc)) l R w')=>Jn.cell hMY c25 HF (fun _ _ w7=>put6_only w7 Y _ _ _ _ _ _) h)
      clear c25 HF KS
      refine wp_region_any (by kernel_rfl) ?_
      refine wpAny_mem [some 37,some 38,some 39,some 40,some 41,some 42,none,some 7,some 8] (fun R j=>valsAt [.pointer (some ⟨K.M,0,none⟩),R,.pointer (some ⟨K.M,0,none⟩),.pointer (some ⟨K.M,0,none⟩),.pointer (some ⟨K.M,25,none⟩),.int .i64 (q:Int),undef,.int .i64 (q:Int),.int .i64 0] j) (Jn w6.drew (Fn w6 Y NV o4.vars) (ovN o1 o2 ST NV (.slice ea NE ec) (.slice ra NA rc)) (fun d cc w7=>put6 w7 Y (.int .i64 o1) (.int .i64 o2) (.int .i64 ST) (.slice ea NE ec) (.slice (some ⟨d,0,none⟩) NV cc) (.slice ra NA rc))) 1 undef rfl vs_one (by kernel_rfl) (by kernel_rfl) (by kernel_rfl) ?hs ?he ?hj
      case hj=>exact .inl ⟨rfl,rfl,rfl⟩
      case hs =>
       intro i' oo ho hil l r fr0 hl h0 hall hv hx w' hJ
       have h25:=HJ25.out _ _ _ hJ
       have hi:i' < 9:=hil
       have hcase:i'=0∨i'=1∨i'=2∨i'=3∨i'=4∨i'=5∨i'=6∨i'=7∨i'=8:=by omega
       clear hi hil
       rcases hcase with rfl | rfl | rfl | rfl | rfl | rfl | rfl | rfl | rfl
       · obtain rfl:=Option.some.inj ho.symm
         clear ho
         have x10:fr0.tmps[(10:Nat)]?=some (.pointer (some ⟨K.M,0,none⟩)):=hx 10 (by decide)
         have HK2:=zh (hJ.keep (l:=l) (i:=0) (by decide) (by decide))
         clear hv hx h0 hall hJ
         refine wpOp_step rfl (fun K2 hK2=>?_)
         go_simp
         exact hK2 _ _ ⟨r,fun _=>rfl,rfl,HK2.out⟩
       · obtain rfl:=Option.some.inj ho.symm
         clear ho
         have d0:fr0.tmps[(37:Nat)]?=some (.pointer (some ⟨K.M,0,none⟩)):=hv ⟨0,.data⟩ (by simp) rfl 37 rfl
         obtain ⟨hj6,rfl⟩:=hJ.first (up_not h0)
         have HJ6:=zh hj6
         clear hv hx hall hJ h0 hj6
         have HOT2:=HOT.out w6.drew ((Below.refl _ w6).drew)
         refine wpOp_step rfl (fun K2 hK2=>?_)
         go_simp
         go_at_call 32
         refine HOT2.mono ?_
         rintro z w7 ⟨d,cc,rfl,hd1,hd2,hd3,hd4,hb7⟩
         refine hK2 _ _ ⟨ovN o1 o2 ST NV (.slice ea NE ec) (.slice ra NA rc) d cc,fun h=>absurd rfl h,rfl,.inr (.inl ⟨up_self (by rw [hl];decide),by rw [getD_set_ne false (by decide)];exact HJ6.out,d,cc,rfl,?_⟩)⟩
         exact ⟨Below.trans ((Below.refl _ w6).drew) hb7,hd1,hd2,hd3,hd4,Blk.next (by exact HY6.out.1) hb7⟩
       · obtain rfl:=Option.some.inj ho.symm
         clear ho
         have x10:fr0.tmps[(10:Nat)]?=some (.pointer (some ⟨K.M,0,none⟩)):=hx 10 (by decide)
         have HK2:=zh (hJ.keep (l:=l) (i:=2) (by decide) (by decide))
         clear hv hx h0 hall hJ
         refine wpOp_step rfl (fun K2 hK2=>?_)
         go_simp
         exact hK2 _ _ ⟨r,fun _=>rfl,rfl,HK2.out⟩
       · obtain rfl:=Option.some.inj ho.symm
         clear ho
         have d2:fr0.tmps[(39:Nat)]?=some (.pointer (some ⟨K.M,0,none⟩)):=hv ⟨2,.data⟩ (by simp) rfl 39 rfl
         have HK2:=zh (hJ.keep (l:=l) (i:=3) (by decide) (by decide))
         clear hv hx h0 hall hJ
         refine wpOp_step rfl (fun K2 hK2=>?_)
         go_simp
         exact hK2 _ _ ⟨r,fun _=>rfl,rfl,HK2.out⟩
       · obtain rfl:=Option.some.inj ho.symm
         clear ho
         have d3:fr0.tmps[(40:Nat)]?=some (.pointer (some ⟨K.M,0,none⟩)):=hv ⟨3,.data⟩ (by simp) rfl 40 rfl
         have HK2:=zh (hJ.keep (l:=l) (i:=4) (by decide) (by decide))
         clear hv hx h0 hall hJ
         refine wpOp_step rfl (fun K2 hK2=>?_)
         go_simp
         exact hK2 _ _ ⟨r,fun _=>rfl,rfl,HK2.out⟩
       · obtain rfl:=Option.some.inj ho.symm
         clear ho
         have d4:fr0.tmps[(41:Nat)]?=some (.pointer (some ⟨K.M,25,none⟩)):=hv ⟨4,.data⟩ (by simp) rfl 41 rfl
         have HK2:=zh (hJ.keep (l:=l) (i:=5) (by decide) (by decide))
         clear hv hx h0 hall hJ
         refine wpOp_step rfl (fun K2 hK2=>?_)
         go_simp
         exact hK2 _ _ ⟨r,fun _=>rfl,rfl,HK2.out⟩
       · obtain rfl:=Option.some.inj ho.symm
         clear ho
         have x6:fr0.tmps[(6:Nat)]?=some (.pointer (some ⟨Y,0,none⟩)):=hx 6 (by decide)
         have d1:fr0.tmps[(38:Nat)]?=some (r):=hv ⟨1,.data⟩ (by simp) rfl 38 rfl
         have h1:l.getD 1 false=true:=hall ⟨1,.data⟩ (by simp) rfl
         obtain ⟨d,cc,rfl,hF⟩:=hJ.second h1 (up_not h0)
         have qy:=hF.2.2.2.2.2
         have y0:w'.cell? ⟨Y,0,none⟩=some (.int .i64 0):=qy.cell 0
         have y1:w'.cell? ⟨Y,1,none⟩=some (.int .i64 0):=qy.cell 1
         have y2:w'.cell? ⟨Y,2,none⟩=some (.int .i64 0):=qy.cell 2
         have y3:w'.cell? ⟨Y,3,none⟩=some (.slice none 0 0):=qy.cell 3
         have y4:w'.cell? ⟨Y,4,none⟩=some (.slice none 0 0):=qy.cell 4
         have y5:w'.cell? ⟨Y,5,none⟩=some (.slice none 0 0):=qy.cell 5
         have g0:=qy.free 0
         have g1:=qy.free 1
         have g2:=qy.free 2
         have g3:=qy.free 3
         have g4:=qy.free 4
         have g5:=qy.free 5
         have HFF:=zh hF
         have H1:=zh h1
         clear hv hx hall hJ h0 hF h1 h25 qy
         refine wpOp_step rfl (fun K2 hK2=>?_)
         go_simp
         exact hK2 _ _ ⟨_,fun _=>rfl,rfl,.inr (.inr ⟨by rw [getD_set_ne false (by decide)];exact H1.out,up_self (by rw [hl];decide),d,cc,w',rfl,HFF.out,rfl⟩)⟩
       · obtain rfl:=Option.some.inj ho.symm
         clear ho
         have d5:fr0.tmps[(42:Nat)]?=some (.int .i64 (q:Int)):=hv ⟨5,.data⟩ (by simp) rfl 42 rfl
         have HK2:=zh (hJ.keep (l:=l) (i:=7) (by decide) (by decide))
         clear hv hx h0 hall hJ
         refine wpOp_step rfl (fun K2 hK2=>?_)
         go_simp
         exact hK2 _ _ ⟨r,fun _=>rfl,rfl,HK2.out⟩
       · obtain rfl:=Option.some.inj ho.symm
         clear ho
         have HK2:=zh (hJ.keep (l:=l) (i:=8) (by decide) (by decide))
         clear hv hx h0 hall hJ
         refine wpOp_step rfl (fun K2 hK2=>?_)
         go_simp
         exact hK2 _ _ ⟨r,fun _=>rfl,rfl,HK2.out⟩
      case he =>
       intro l r w' hu hJ
       obtain ⟨d,cc,w7,rfl,hF,rfl⟩:=hJ.done (hu 6 (by decide))
       simp only [putM,valsAt,Nat.reduceAdd,Nat.zero_add,List.getD_cons_zero,List.getD_cons_succ,Act.put,List.setIfInBounds_toArray,List.set_cons_succ,List.set_cons_zero]
       go_wp2_with fail
       go_meet
       exact ⟨rfl,rfl,d,cc,w7,rfl,hF.1,hF.2.1,hF.2.2.1,hF.2.2.2.1,hF.2.2.2.2.1,hF.2.2.2.2.2⟩
     case rest =>
      obtain ⟨rfl,rfl,d,cc,w7,rfl,hbz,hdw,hd2,hd3,hd4,qy⟩:=hcut
      go_wp2_with fail
      have hb:=put6_blk qy (.int .i64 o1) (.int .i64 o2) (.int .i64 ST) (.slice ea NE ec) (.slice (some ⟨d,0,none⟩) NV cc) (.slice ra NA rc)
      refine bodyPost_ret (results_row_tmp2 rfl _ _ Y _ #[.int .i64 o1,.int .i64 o2,.int .i64 ST,.slice ea NE ec,.slice (some ⟨d,0,none⟩) NV cc,.slice ra NA rc] _ _ rfl hb rfl rfl (by kernel_rfl)) rfl ?_
      have ho7:=put6_only w7 Y (.int .i64 o1) (.int .i64 o2) (.int .i64 ST) (.slice ea NE ec) (.slice (some ⟨d,0,none⟩) NV cc) (.slice ra NA rc)
      obtain ⟨hy6,hb36,hYH,hva,hste,hsr,hm6,hcapv⟩:=HY6.out
      have hout:=Mk.out HK.out.1 hm6 (by have:=HKL.out;omega) (by have h:=HK.out.2.2.1;rwa [HK.out.2.1]) hcapv hbz hdw (by rw [HLT.out.1];exact hd2) hd3 (by rw [HLT.out.1];exact hd4)
      rw [HNE.out,hva,HLT.out.2.1,HLT.out.2.2] at hout
      have hlo:w.heap.size≤K.H0:=by rw [HK.out.2.1];exact HBW.out.size
      have hw7:Below w.heap.size w w7:=HBW.out.trans ((hb36.mono hlo).trans (hbz.mono (Nat.le_trans hlo (Nat.le_trans HK.out.1.b0 hm6.size))))
      refine ⟨_,(q:Int),rfl,hw7.trans (ho7.old (by have h1:=HX.out.1;have h2:=H2.out.2.2.2;omega) hw7.size),?_,?_⟩
      · unfold srunO
        rw [hsr]
        have h2:=(hout.next (keepsUp_only ho7 hYH)).lower hlo
        rw [HLT.out.1] at h2 ⊢
        exact h2
      · rw [hsr]
 · rw [if_pos hz] at hF
   subst hF
   have hzb:(WE != 0)=true:=by simpa using hz
   have HBAD:=zh hz
   clear hz hWE
   skip
   go_enter Tryz.func12,Tryz.ntmps12
   go_upto_region 1 with fail
   rw [HX.out.1,HW1.out,HXY1.out,HW2.out]
   go_upto_region 2 with (first | (go_at_call 29;(with_reducible refine HC.out.mono ?_);rintro e w3 ⟨rfl,hb3⟩;have HB3:=zh hb3;clear hb3) | fail)
   have hy7:=H2.out.2.1.next HB3.out
   have y0:w3.cell? ⟨Y,0,none⟩=some (.int .i64 0):=hy7.cell 0
   have g0:=hy7.free 0
   have y1:w3.cell? ⟨Y,1,none⟩=some (.int .i64 0):=hy7.cell 1
   have g1:=hy7.free 1
   have y2:w3.cell? ⟨Y,2,none⟩=some (.int .i64 0):=hy7.cell 2
   have g2:=hy7.free 2
   have y3:w3.cell? ⟨Y,3,none⟩=some (.slice none 0 0):=hy7.cell 3
   have g3:=hy7.free 3
   have y4:w3.cell? ⟨Y,4,none⟩=some (.slice none 0 0):=hy7.cell 4
   have g4:=hy7.free 4
   have y5:w3.cell? ⟨Y,5,none⟩=some (.slice none 0 0):=hy7.cell 5
   have g5:=hy7.free 5
   have HY4:=zh hy7
   clear hy7 z0 z1 z2 z3 z4 z5
   go_wp2_with fail
   have hb:=put6_blk HY4.out (.int .i64 0) (.int .i64 0) (.int .i64 0) (.slice none 0 0) (.slice none 0 0) (.slice none 0 0)
   refine bodyPost_ret (results_row_tmp2 rfl _ _ Y _ #[.int .i64 0,.int .i64 0,.int .i64 0,.slice none 0 0,.slice none 0 0,.slice none 0 0] _ _ rfl hb rfl rfl (by kernel_rfl)) rfl ?_
   exact ⟨zeroO,0,rfl,(H2.out.2.2.1.trans (HB3.out.mono H2.out.2.2.1.size)).trans ((put6_only w3 Y _ _ _ _ _ _).old (by have h1:=HX.out.1;have h2:=H2.out.2.2.2;omega) (by have:=HB3.out.size;have:=H2.out.2.2.1.size;omega)),fun h=>absurd h HBAD.out,fun _=>⟨rfl,rfl⟩⟩
open Go Go.RowKit
structure Gd where
 pl:ByteArray→Nat
 nv:Nat
 na:Nat
def gdK (G:Gd) (ty:Ty) (k n:Int) (nm:ByteArray) (xl cl:Nat):Prop:=match ty with
 | .E=>1≤k∧k≤10∧(k=1→0≤n)∧(k≤3→xl=0)∧(k=4∨k=5→xl=1)∧(6≤k→xl=2)∧(k=2→G.pl nm<G.nv)∧(k=4→G.pl nm<G.na)
 | .C=>1≤k∧k≤6∧(k=3→xl=2∧1≤n∧n≤6)∧(k=4→cl=1)∧(5≤k→cl=2)
 | .S=>1≤k∧k≤7∧(k=1→xl=1)∧(k=2→xl=2)∧(3≤k∧k≤6→cl=1)∧(k=1→G.pl nm<G.nv)∧(k=2→G.pl nm<G.na)
 | .D=>True
mutual
def gdN (G:Gd):Nd→Prop
 | .mk ty k n nm xs cs ts es=>gdK G ty k n nm xs.length cs.length∧gdL G .E xs∧gdL G .C cs∧gdL G .S ts∧gdL G .S es
def gdL (G:Gd):Ty→List Nd→Prop
 | _,[]=>True
 | ty,x :: r=>x.ty=ty∧gdN G x∧gdL G ty r
end
def gdU (G:Gd) (u:Us):Prop:=if u.2 then G.pl u.1<G.na else G.pl u.1<G.nv
mutual
theorem gdN_of (G:Gd):∀ (x:Nd),fitN x→(∀ y ∈ allN x,wellN y=true)→(∀ u ∈ usesN x,gdU G u)→gdN G x
 | .mk ty k n nm xs cs ts es,hf,hall,hus=>by
   unfold fitN at hf
   obtain ⟨hfit,hx,hc,ht,he⟩:=hf
   cases ty with
   | E =>
     simp only [fits] at hfit
     obtain ⟨rfl,rfl,rfl⟩:=hfit
     have e:allN (.mk .E k n nm xs [] [] [])=.mk .E k n nm xs [] [] [] :: allL xs:=by unfold allN;rfl
     have eu:usesN (.mk .E k n nm xs [] [] [])=headU nm (k==2) (k==4)++usesL xs:=by unfold usesN;rfl
     rw [e] at hall
     rw [eu] at hus
     have h1:wellE k n nm xs.length=true:=hall _ (List.mem_cons_self ..)
     unfold wellE kindE ownE argsE at h1
     simp only [Bool.and_eq_true,Bool.or_eq_true,decide_eq_true_eq,beq_iff_eq] at h1
     obtain ⟨⟨hk,-⟩,hlen,hn⟩:=h1
     unfold gdN
     refine ⟨⟨hk.1,hk.2,fun h=>by omega,fun h=>?_,fun h=>?_,fun h=>?_,fun h=>?_,fun h=>?_⟩,gdL_of G .E xs hx (fun y hy=>hall y (List.mem_cons_of_mem _ hy)) (fun u hu=>hus u (List.mem_append_right _ hu)),by unfold gdL;trivial,by unfold gdL;trivial,by unfold gdL;trivial⟩
     · rw [if_neg (by omega),if_neg (by omega)] at hlen;omega
     · rw [if_pos h] at hlen;omega
     · rw [if_neg (by omega),if_pos ⟨h,hk.2⟩] at hlen;omega
     · have:=hus (nm,false) (List.mem_append_left _ (by subst h;simp [headU]))
       simpa [gdU] using this
     · have:=hus (nm,true) (List.mem_append_left _ (by subst h;simp [headU]))
       simpa [gdU] using this
   | C =>
     simp only [fits] at hfit
     obtain ⟨-,rfl,rfl⟩:=hfit
     have e:allN (.mk .C k n nm xs cs [] [])=.mk .C k n nm xs cs [] [] :: (allL xs++allL cs):=by unfold allN;rfl
     have eu:usesN (.mk .C k n nm xs cs [] [])=usesL xs++usesL cs:=by unfold usesN;rfl
     rw [e] at hall
     rw [eu] at hus
     have h1:wellC k n xs.length cs.length=true:=hall _ (List.mem_cons_self ..)
     unfold wellC kindC ownC opC exprsC partsC at h1
     simp only [Bool.and_eq_true,decide_eq_true_eq,beq_iff_eq] at h1
     obtain ⟨hk,hop,hxl,hcl⟩:=h1
     unfold gdN
     refine ⟨⟨hk.1,hk.2,fun h=>?_,fun h=>?_,fun h=>?_⟩,gdL_of G .E xs hx (fun y hy=>hall y (List.mem_cons_of_mem _ (List.mem_append_left _ hy))) (fun u hu=>hus u (List.mem_append_left _ hu)),gdL_of G .C cs hc (fun y hy=>hall y (List.mem_cons_of_mem _ (List.mem_append_right _ hy))) (fun u hu=>hus u (List.mem_append_right _ hu)),by unfold gdL;trivial,by unfold gdL;trivial⟩
     · rw [if_pos h] at hxl hop
       simp only [decide_eq_true_eq] at hop
       omega
     · rw [if_pos h] at hcl;omega
     · rw [if_neg (by omega),if_pos (by omega)] at hcl;omega
   | S =>
     have e:allN (.mk .S k n nm xs cs ts es)=.mk .S k n nm xs cs ts es :: (allL cs++(allL xs++(allL ts++allL es))):=by unfold allN;rfl
     have eu:usesN (.mk .S k n nm xs cs ts es)=headU nm (k==1) (k==2)++(usesL cs++(usesL xs++(usesL ts++usesL es))):=by unfold usesN;rfl
     rw [e] at hall
     rw [eu] at hus
     have h1:wellS k nm xs.length cs.length ts.length es.length=true:=hall _ (List.mem_cons_self ..)
     unfold wellS kindS ownS exprsS condsS at h1
     simp only [Bool.and_eq_true,Bool.or_eq_true,decide_eq_true_eq,beq_iff_eq] at h1
     obtain ⟨⟨hk,-⟩,hxl,hcl,-⟩:=h1
     unfold gdN
     refine ⟨⟨hk.1,hk.2,fun h=>?_,fun h=>?_,fun h=>?_,fun h=>?_,fun h=>?_⟩,gdL_of G .E xs hx (fun y hy=>hall y (List.mem_cons_of_mem _ (List.mem_append_right _ (List.mem_append_left _ hy)))) (fun u hu=>hus u (List.mem_append_right _ (List.mem_append_right _ (List.mem_append_left _ hu)))),gdL_of G .C cs hc (fun y hy=>hall y (List.mem_cons_of_mem _ (List.mem_append_left _ hy))) (fun u hu=>hus u (List.mem_append_right _ (List.mem_append_left _ hu))),gdL_of G .S ts ht (fun y hy=>hall y (List.mem_cons_of_mem _ (List.mem_append_right _ (List.mem_append_right _ (List.mem_append_left _ hy))))) (fun u hu=>hus u (List.mem_append_right _ (List.mem_append_right _ (List.mem_append_right _ (List.mem_append_left _ hu))))),gdL_of G .S es he (fun y hy=>hall y (List.mem_cons_of_mem _ (List.mem_append_right _ (List.mem_append_right _ (List.mem_append_right _ hy))))) (fun u hu=>hus u (List.mem_append_right _ (List.mem_append_right _ (List.mem_append_right _ (List.mem_append_right _ hu)))))⟩
     · rw [if_pos h] at hxl;omega
     · rw [if_neg (by omega),if_pos h] at hxl;omega
     · rw [if_pos h] at hcl;omega
     · have:=hus (nm,false) (List.mem_append_left _ (by subst h;simp [headU]))
       simpa [gdU] using this
     · have:=hus (nm,true) (List.mem_append_left _ (by subst h;simp [headU]))
       simpa [gdU] using this
   | D =>
     simp only [fits] at hfit
     obtain ⟨-,rfl,rfl,rfl,rfl⟩:=hfit
     unfold gdN
     refine ⟨trivial,?_,?_,?_,?_⟩<;>(unfold gdL;trivial)
theorem gdL_of (G:Gd):∀ (ty:Ty) (l:List Nd),fitL ty l→(∀ y ∈ allL l,wellN y=true)→(∀ u ∈ usesL l,gdU G u)→gdL G ty l
 | ty,[],_,_,_=>by unfold gdL;trivial
 | ty,x :: r,hf,hall,hus=>by
   unfold fitL at hf
   have e:allL (x :: r)=allN x++allL r:=by rw [allL]
   have eu:usesL (x :: r)=usesN x++usesL r:=by rw [usesL]
   rw [e] at hall
   rw [eu] at hus
   unfold gdL
   exact ⟨hf.1,gdN_of G x hf.2.1 (fun y hy=>hall y (List.mem_append_left _ hy)) (fun u hu=>hus u (List.mem_append_left _ hu)),gdL_of G ty r hf.2.2 (fun y hy=>hall y (List.mem_append_right _ hy)) (fun u hu=>hus u (List.mem_append_right _ hu))⟩
end
theorem prog_gd {ds ss:List Nd} (hs:fitL .S ss) (hz:(wellP ds ss).2=0):gdL ⟨plW ds,(varsL ds).length,(arrsL ds).length⟩ .S ss:=by
 obtain ⟨h1,h2,h3⟩:=wellP_ok hz
 have hus:=bad_all _ h3
 refine gdL_of _ .S ss hs (fun y hy=>prog_all h1 y (List.mem_append_right _ hy)) (fun u hu=>?_)
 have hu1:=hus u hu
 unfold gdU
 split
 · rename_i hq
   rw [hq] at hu1
   exact pl_arr h2 hu1
 · rename_i hq
   have:u.2=false:=by simpa using hq
   rw [this] at hu1
   exact pl_var h2 hu1
end Go.Proofs.YtmohmggnjldddaaGreatDoor
