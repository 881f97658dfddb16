/-
  gnomonhelp.Outcome: proved is that it answers true for two outcomes that say the same.
-/
import Derived.Test.YtmohmggnjldddaaGreatDoorQRunW
import Derived.Laws.ResultCell
import Derived.Test.YtmohmggnjldddaaGreatDoorQUsesC
namespace Go.Proofs.YtmohmggnjldddaaGreatDoor
open Go Go.RowKit Go.Maps
def runF (ds ss:List Nd) (script:List Int) (k:Int):Int:=if (wellP ds ss).2 ≠ 0 then (wellP ds ss).2 else if k < 0 ∨ 65536 < k ∨ 65536 < script.length then 80 else 0
def runS (ds:List Nd) (script:List Int):Rn:={ startR (varsL ds) (arrsL ds) with left:=script }
def runO (ds ss:List Nd) (script:List Int) (k:Int):Int × Int × Rn:=outR (stL ⟨plW ds,k.toNat⟩ ss (runS ds script))
def zeroO:Value:=.agg #[.int .i64 0,.int .i64 0,.int .i64 0,.slice none 0 0,.slice none 0 0,.slice none 0 0]
def RunTo (w:World) (ds ss:List Nd) (script:List Int) (k:Int):Ending→World→Prop:=fun e w'=>∃ u,e=.returned (.tuple #[u,.int .i64 (runF ds ss script k)])∧Below w.heap.size w w'∧(runF ds ss script k=0→OutIn w' w.heap.size (runO ds ss script k) u)∧(runF ds ss script k ≠ 0→u=zeroO)
theorem results_row_tmp {P:Program} {fn:Func} {p u:Tmp} {ty:TypeId} (h:fn.results=#[.cell p ty,.tmp u]) (tmps:Array Value) (w:World) (g:Nat) (t:TypeId) (cs:Array Value) (fr:Nat × Nat) (d:TypeDesc)
    (hp:tmps.getD p undef=.pointer (some ⟨g,0,none⟩)) (hg:w.heap[g]?=some (.cells cs t fr))
    (hu:P.underlying ty=some d) (hd:(match d with | .struct _ | .array _ _=>true | _=>false)=true) (hi:(P.info? ty).map (·.size)=some cs.size) :
    (results fn tmps).run P w=.ok (.tuple #[.agg cs,tmps.getD u undef]) w:=by
 have hp':tmps[p]?.getD undef=.pointer (some ⟨g,0,none⟩):=by simpa using hp
 rw [results_cell_tmp h]
 simp [hp',asAddr,run_loadVar_row w g t ty cs fr d hg hu hd hi]
theorem IntsAt.up {w w':World} {H0 H1:Nat} {l:List Int} {v:Value} (h:IntsAt w H0 l v) (hb:Below H0 w w') (hle:H0≤H1):IntsAt w' H1 l v:=by
 obtain ⟨a,c,h1,h2,h3,h4⟩:=h.below hb
 refine ⟨a,c,h1,h2,h3,h4.imp id ?_⟩
 rintro ⟨b,o,h5,h6,h7⟩
 exact ⟨b,o,h5,by omega,h7⟩
def withM (K:Me) (k:Nat):Me:={ K with E:=⟨K.E.pl,k⟩ }
theorem withM_ok {K:Me} (hk:K.ok) {k:Nat} (h:k≤65536):(withM K k).ok :=
 { most:=h,look:=hk.look,m0:=hk.m0,v0:=hk.v0,a0:=hk.a0,b0:=hk.b0,m1:=hk.m1,g1:=hk.g1,v1:=hk.v1,r1:=hk.r1,a1:=hk.a1,mg:=hk.mg,mv:=hk.mv,mr:=hk.mr,ma:=hk.ma,vg:=hk.vg,vr:=hk.vr,va':=hk.va',ag:=hk.ag,ra:=hk.ra,aa:=hk.aa,few:=hk.few,az:=hk.az,nz:=hk.nz,rows:=hk.rows }
theorem Mc.start {K:Me} {w:World} {s:Rn} {sv ve:Value} (hk:K.ok) (h:Mc K w s sv ve) {k:Nat} {script:List Int} {vs:Value} (hs:IntsAt w K.H0 script vs) (hf:∀ x ∈ script,fitsI x) (h0:s.steps=0):Mc (withM K k) ((w.setCell ⟨K.M,1,none⟩ vs).setCell ⟨K.M,2,none⟩ (.int .i64 k)) { s with left:=script } vs ve:=by
 have ho:Only K.M w ((w.setCell ⟨K.M,1,none⟩ vs).setCell ⟨K.M,2,none⟩ (.int .i64 k)):=((Only.refl K.M w).setCell (p:=⟨K.M,1,none⟩) rfl _).setCell (p:=⟨K.M,2,none⟩) rfl _
 have hX:=(h.mach.set 1 vs).set 2 (.int .i64 k)
 have e:((machV K 0 0 s sv ve).setIfInBounds 1 vs).setIfInBounds 2 (.int .i64 k)=machV (withM K k) 0 0 { s with left:=script } vs ve:=rfl
 rw [e] at hX
 exact
 { mach:=hX
   evs:=ownsRow_only h.evs ho hk.m1
   left:=hs.below (ho.old hk.m0 (Nat.le_trans hk.b0 h.size))
   map:=ownsMap_only h.map ho (fun e=>hk.mg e.symm)
   vars:=h.vars.only ho (fun e=>hk.mv e.symm)
   rows:=fun i hi=>only_cell ho (h.rows i hi) (fun e=>hk.mr e.symm)
   arrs:=fun i hi=>(h.arrs i hi).only ho (fun e=>hk.ma _ (List.getElem_mem hi) e.symm)
   size:=Nat.le_trans h.size ho.size
   nv:=h.nv
   na:=h.na
   sz:=h.sz
   steps:=by show s.steps≤k;omega
   few:=h.few
   fv:=h.fv
   fa:=h.fa
   fl:=hf }
theorem IntsIn.lower {w:World} {lo lo':Nat} (h0:lo'≤lo) {l:List Int} {v:Value} (h:IntsIn w lo l v):IntsIn w lo' l v:=by
 obtain ⟨b,c,h1,h2,h3,h4,h5⟩:=h
 exact ⟨b,c,h1,h2,h3,by omega,h5⟩
theorem OutIn.lower {w:World} {lo lo':Nat} (h0:lo'≤lo) {o:Int × Int × Rn} {v:Value} (h:OutIn w lo o v):OutIn w lo' o v:=by
 obtain ⟨ve,vv,va,h1,h2,h3,h4,h5⟩:=h
 refine ⟨ve,vv,va,h1,?_,h3.lower h0,?_,h5⟩
 · obtain ⟨a,c,h1,h2,h3,h4⟩:=h2
   refine ⟨a,c,h1,h2,h3,h4.imp id ?_⟩
   rintro ⟨b,h5,h6,h7⟩
   exact ⟨b,h5,by omega,h7⟩
 · obtain ⟨a,c,h1,h2,h3,h4⟩:=h4
   refine ⟨a,c,h1,h2,h3,h4.imp id ?_⟩
   rintro ⟨b,h5,h6,h7⟩
   refine ⟨b,h5,by omega,fun i hi=>?_⟩
   obtain ⟨u,h8,h9⟩:=h7 i hi
   exact ⟨u,h8,h9.lower h0⟩
theorem EvsIn.form {w:World} {lo:Nat} {l:List (Bool × Int × Bool)} {v:Value} (h:EvsIn w lo l v):∃ a c,v=.slice a l.length c:=by
 obtain ⟨a,c,h1,-⟩:=h
 exact ⟨a,c,h1⟩
theorem IntsIn.form {w:World} {lo:Nat} {l:List Int} {v:Value} (h:IntsIn w lo l v):∃ b c,v=.slice (some ⟨b,0,none⟩) l.length c:=by
 obtain ⟨b,c,h1,-⟩:=h
 exact ⟨b,c,h1⟩
theorem RowsIn.form {w:World} {lo:Nat} {l:List (List Int)} {v:Value} (h:RowsIn w lo l v):∃ a c,v=.slice a l.length c:=by
 obtain ⟨a,c,h1,-⟩:=h
 exact ⟨a,c,h1⟩
def put6 (w:World) (Y:Nat) (v0 v1 v2 v3 v4 v5:Value):World:=(((((w.setCell ⟨Y,0,none⟩ v0).setCell ⟨Y,1,none⟩ v1).setCell ⟨Y,2,none⟩ v2).setCell ⟨Y,3,none⟩ v3).setCell ⟨Y,4,none⟩ v4).setCell ⟨Y,5,none⟩ v5
theorem put6_blk {w:World} {Y:Nat} {a0 a1 a2 a3 a4 a5:Value} {t:TypeId} (h:Blk w Y #[a0,a1,a2,a3,a4,a5] t) (v0 v1 v2 v3 v4 v5:Value):Blk (put6 w Y v0 v1 v2 v3 v4 v5) Y #[v0,v1,v2,v3,v4,v5] t:=(((((h.set 0 v0).set 1 v1).set 2 v2).set 3 v3).set 4 v4).set 5 v5
theorem put6_only (w:World) (Y:Nat) (v0 v1 v2 v3 v4 v5:Value):Only Y w (put6 w Y v0 v1 v2 v3 v4 v5):=((((((Only.refl Y w).setCell (p:=⟨Y,0,none⟩) rfl _).setCell (p:=⟨Y,1,none⟩) rfl _).setCell (p:=⟨Y,2,none⟩) rfl _).setCell (p:=⟨Y,3,none⟩) rfl _).setCell (p:=⟨Y,4,none⟩) rfl _).setCell (p:=⟨Y,5,none⟩) rfl _
set_option maxRecDepth 100000 in
set_option maxHeartbeats 8000000 in
theorem Run_any (ds ss:List Nd) (script:List Int) (k:Int) (v0 v1 vs:Value) (w:World) (hd:SlIn w .D ds v0) (hs:SlIn w .S ss v1) (hsc:IntsAt w w.heap.size script vs) (hfit:∀ x ∈ script,fitsI x) :
    Calls Tryz.prog 11 #[.agg #[v0,v1],vs,.int .i64 k] w (RunTo w ds ss script k):=by
 have hvars:=fun w2 (hb:Below w.heap.size w w2)=>wvars_any ds ss v0 v1 w2 (hd.keep (keeps_below hb)) (hs.keep (keeps_below hb))
 have harrs:=fun w2 (hb:Below w.heap.size w w2)=>warrs_any ds ss v0 v1 w2 (hd.keep (keeps_below hb)) (hs.keep (keeps_below hb))
 have hv0:∃ a c,v0=.slice a ds.length c:=by obtain ⟨a,c,h,-⟩:=hd;exact ⟨a,c,h⟩
 have hv1:∃ a c,v1=.slice a ss.length c:=by obtain ⟨a,c,h,-⟩:=hs;exact ⟨a,c,h⟩
 obtain ⟨a0,c0,rfl⟩:=hv0
 obtain ⟨a1,c1,rfl⟩:=hv1
 obtain ⟨X,hX⟩:∃ X,w.heap.size=X:=⟨_,rfl⟩
 obtain ⟨W1,hW1⟩:∃ W1,w.alloc (.cells #[.slice a0 ds.length c0,.slice a1 ss.length c1] 25)=W1:=⟨_,rfl⟩
 have hx1:Blk W1 X #[.slice a0 ds.length c0,.slice a1 ss.length c1] 25:=by rw [← hW1,← hX];exact Blk.new w _ _
 have hb1:Below w.heap.size w W1:=by rw [← hW1];exact (Below.refl _ w).alloc (Nat.le_refl _) _
 obtain ⟨Y,hY⟩:∃ Y,W1.heap.size=Y:=⟨_,rfl⟩
 obtain ⟨W2,hW2⟩:∃ W2,W1.alloc (.cells #[.int .i64 0,.int .i64 0,.int .i64 0,.slice none 0 0,.slice none 0 0,.slice none 0 0] 47)=W2:=⟨_,rfl⟩
 have hx2:Blk W2 X #[.slice a0 ds.length c0,.slice a1 ss.length c1] 25:=by rw [← hW2];exact hx1.alloc _
 have hy2:Blk W2 Y #[.int .i64 0,.int .i64 0,.int .i64 0,.slice none 0 0,.slice none 0 0,.slice none 0 0] 47:=by rw [← hW2,← hY];exact Blk.new W1 _ _
 have hb2:Below w.heap.size w W2:=by rw [← hW2];exact hb1.alloc hb1.size _
 have hXY:X < Y:=by have:=hx1.lt;omega
 have x0:W2.cell? ⟨X,0,none⟩=some (.slice a0 ds.length c0):=hx2.cell 0
 have x1:W2.cell? ⟨X,1,none⟩=some (.slice a1 ss.length c1):=hx2.cell 1
 have HV:=Lib.hid (hvars W2 hb2)
 have HA:=Lib.hid (fun w3 (hb:Below W2.heap.size W2 w3)=>harrs w3 (hb2.trans (hb.mono hb2.size)))
 have H2:=Lib.hid (And.intro hx2 (And.intro hy2 (And.intro hb2 hXY)))
 have HIN:=Lib.hid (And.intro hd (And.intro hs (And.intro hsc hfit)))
 have HX:=Lib.hid (And.intro hX hY)
 have HW1:=Lib.hid hW1
 have HW2:=Lib.hid hW2
 clear hvars harrs hx1 hb1 hx2 hy2 hb2 hd hs hsc hfit hX hY hW1 hW2
 obtain ⟨F,hF⟩:∃ f,runF ds ss script k=f:=⟨_,rfl⟩
 unfold RunTo
 rw [hF]
 unfold runF at hF
 obtain ⟨WE,hWE⟩:∃ e,(wellP ds ss).2=e:=⟨_,rfl⟩
 rw [hWE] at hF
 simp only [hWE] at HV HA
 have HXY1:=Lib.hid (show X+1=Y by rw [← HX.out.2,← HW1.out,World.size_alloc,HX.out.1])
 by_cases hz:WE=0
 · subst hz
   simp only [if_true] at HV HA
   simp only [ne_eq,not_true_eq_false,if_false] at hF
   obtain ⟨hd1,hd2,hd3⟩:=wellP_ok hWE
   have hnv:=vars_few hd2
   have hna:=arrs_few hd2
   have hnms:=nms_sz (fit_list HIN.out.1) (noD_list HIN.out.2.1) hd1
   have hpn:=prog_all hd1
   have hsz:∀ x ∈ arrsL ds,0≤dSz x∧dSz x≤1024:=by
    intro x hx
    refine ⟨?_,decl_sz hd2 x (arrsL_mem hx).1⟩
    have hxd:=(arrsL_mem hx).1
    have hty:=ty_of (fit_list HIN.out.1) x hxd
    have hin:x ∈ allL ds:=by
     have:∀ (l:List Nd),x ∈ l→x ∈ allL l:=by
      intro l hl
      induction l with
      | nil=>cases hl
      | cons y r ih =>
        rw [allL]
        rcases List.mem_cons.1 hl with rfl | h1
        · refine List.mem_append_left _ ?_
          obtain ⟨ty,kk,n,nm,xs,cs,ts,es⟩:=x
          simp only [Nd.ty] at hty
          subst hty
          unfold allN
          simp
        · exact List.mem_append_right _ (ih h1)
     exact this ds hxd
    have hw:=hpn x (List.mem_append_left _ hin)
    obtain ⟨ty,kk,n,nm,xs,cs,ts,es⟩:=x
    simp only [Nd.ty] at hty
    subst hty
    have hw:wellD n=true:=hw
    unfold wellD at hw
    simp only [Bool.not_eq_true',Bool.or_eq_false_iff,decide_eq_false_iff_not] at hw
    show 0≤n
    omega
   have hn0:∀ x ∈ varsL ds,x.size≤maxLen:=by
    intro x hx
    obtain ⟨y,hy,-,rfl⟩:=varsL_mem hx
    have:=hnms.1 y hy
    rw [dNm_own (ty_of (fit_list HIN.out.1) y hy)]
    unfold maxLen
    omega
   have hn1:∀ x ∈ arrsL ds,(dNm x).size≤maxLen:=by
    intro y hy
    have hyd:=(arrsL_mem hy).1
    have:=hnms.1 y hyd
    rw [dNm_own (ty_of (fit_list HIN.out.1) y hyd)]
    unfold maxLen
    omega
   have hvf:∃ a n c,vs=.slice a n c∧n=script.length:=by obtain ⟨a,c,h,-⟩:=HIN.out.2.2.1;exact ⟨a,_,c,h,rfl⟩
   obtain ⟨asc,_,csc,rfl,rfl⟩:=hvf
   have HND:=Lib.hid (And.intro hsz (And.intro hn0 (And.intro hn1 (And.intro hnv hna))))
   have HWE:=Lib.hid hWE
   clear hd1 hd2 hd3 hnms hpn hsz hn0 hn1 hnv hna hWE
   by_cases hbad:k < 0 ∨ 65536 < k ∨ 65536 < script.length
   · rw [if_pos hbad] at hF
     subst hF
     have HBAD:=Lib.hid (show ¬ (80:Int)=0 by decide)
     have hcase:k < 0 ∨ (¬ k < 0∧65536 < k) ∨ (¬ k < 0∧¬ 65536 < k∧65536 < script.length):=by omega
     clear hbad HIN HND
     rcases hcase with h1 | ⟨h1,h2⟩ | ⟨h1,h2,h3⟩
     · have t1:decide (k < 0)=true:=by simpa using h1
       go_enter Tryz.func11,Tryz.ntmps11
       go_upto_region 1 with fail
       rw [HX.out.1,HW1.out,HXY1.out,HW2.out]
       go_upto_region 3 with (first
        | (go_at_call 14;(with_reducible refine HV.out.mono ?_);rintro e w3 ⟨v8,rfl,ho8,hb3⟩;have q0:w3.cell? ⟨X,0,none⟩=some (.slice a0 ds.length c0):=(H2.out.1.next hb3).cell 0;have q1:w3.cell? ⟨X,1,none⟩=some (.slice a1 ss.length c1):=(H2.out.1.next hb3).cell 1;have HAC:=Lib.hid (HA.out w3 hb3);have HB3:=Lib.hid hb3;have HO8:=Lib.hid ho8;clear hb3 ho8)
        | (go_at_call 15;(with_reducible refine HAC.out.mono ?_);rintro e w4 ⟨v10,rfl,ho10,hb4⟩;have HB4:=Lib.hid (HB3.out.trans (hb4.mono HB3.out.size));have HO10:=Lib.hid ho10;have HO9:=Lib.hid (ownsRow_below HO8.out hb4);clear hb4 ho10) | fail)
       have hy4:=H2.out.2.1.next HB4.out
       have y0:w4.cell? ⟨Y,0,none⟩=some (.int .i64 0):=hy4.cell 0
       have y1:w4.cell? ⟨Y,1,none⟩=some (.int .i64 0):=hy4.cell 1
       have y2:w4.cell? ⟨Y,2,none⟩=some (.int .i64 0):=hy4.cell 2
       have y3:w4.cell? ⟨Y,3,none⟩=some (.slice none 0 0):=hy4.cell 3
       have y4:w4.cell? ⟨Y,4,none⟩=some (.slice none 0 0):=hy4.cell 4
       have y5:w4.cell? ⟨Y,5,none⟩=some (.slice none 0 0):=hy4.cell 5
       have g0:=hy4.free 0
       have g1:=hy4.free 1
       have g2:=hy4.free 2
       have g3:=hy4.free 3
       have g4:=hy4.free 4
       have g5:=hy4.free 5
       have HY4:=Lib.hid hy4
       clear hy4
       go_wp2_with fail
       have hb:=put6_blk HY4.out (.int .i64 0) (.int .i64 0) (.int .i64 0) (.slice none 0 0) (.slice none 0 0) (.slice none 0 0)
       refine bodyPost_ret (results_row_tmp rfl _ _ Y _ #[.int .i64 0,.int .i64 0,.int .i64 0,.slice none 0 0,.slice none 0 0,.slice none 0 0] _ _ rfl hb rfl rfl (by kernel_rfl)) rfl ?_
       exact ⟨zeroO,rfl,(H2.out.2.2.1.trans (HB4.out.mono H2.out.2.2.1.size)).trans ((put6_only w4 Y _ _ _ _ _ _).old (by have:=HX.out.1;omega) (by have:=HB4.out.size;have:=H2.out.2.2.1.size;omega)),fun h=>absurd h HBAD.out,fun _=>rfl⟩
     · have t1:decide (k < 0)=false:=by simpa using h1
       have t2:decide (65536 < k)=true:=by simpa using h2
       go_enter Tryz.func11,Tryz.ntmps11
       go_upto_region 1 with fail
       rw [HX.out.1,HW1.out,HXY1.out,HW2.out]
       go_upto_region 3 with (first
        | (go_at_call 14;(with_reducible refine HV.out.mono ?_);rintro e w3 ⟨v8,rfl,ho8,hb3⟩;have q0:w3.cell? ⟨X,0,none⟩=some (.slice a0 ds.length c0):=(H2.out.1.next hb3).cell 0;have q1:w3.cell? ⟨X,1,none⟩=some (.slice a1 ss.length c1):=(H2.out.1.next hb3).cell 1;have HAC:=Lib.hid (HA.out w3 hb3);have HB3:=Lib.hid hb3;have HO8:=Lib.hid ho8;clear hb3 ho8)
        | (go_at_call 15;(with_reducible refine HAC.out.mono ?_);rintro e w4 ⟨v10,rfl,ho10,hb4⟩;have HB4:=Lib.hid (HB3.out.trans (hb4.mono HB3.out.size));have HO10:=Lib.hid ho10;have HO9:=Lib.hid (ownsRow_below HO8.out hb4);clear hb4 ho10) | fail)
       have hy4:=H2.out.2.1.next HB4.out
       have y0:w4.cell? ⟨Y,0,none⟩=some (.int .i64 0):=hy4.cell 0
       have y1:w4.cell? ⟨Y,1,none⟩=some (.int .i64 0):=hy4.cell 1
       have y2:w4.cell? ⟨Y,2,none⟩=some (.int .i64 0):=hy4.cell 2
       have y3:w4.cell? ⟨Y,3,none⟩=some (.slice none 0 0):=hy4.cell 3
       have y4:w4.cell? ⟨Y,4,none⟩=some (.slice none 0 0):=hy4.cell 4
       have y5:w4.cell? ⟨Y,5,none⟩=some (.slice none 0 0):=hy4.cell 5
       have g0:=hy4.free 0
       have g1:=hy4.free 1
       have g2:=hy4.free 2
       have g3:=hy4.free 3
       have g4:=hy4.free 4
       have g5:=hy4.free 5
       have HY4:=Lib.hid hy4
       clear hy4
       go_wp2_with fail
       have hb:=put6_blk HY4.out (.int .i64 0) (.int .i64 0) (.int .i64 0) (.slice none 0 0) (.slice none 0 0) (.slice none 0 0)
       refine bodyPost_ret (results_row_tmp rfl _ _ Y _ #[.int .i64 0,.int .i64 0,.int .i64 0,.slice none 0 0,.slice none 0 0,.slice none 0 0] _ _ rfl hb rfl rfl (by kernel_rfl)) rfl ?_
       exact ⟨zeroO,rfl,(H2.out.2.2.1.trans (HB4.out.mono H2.out.2.2.1.size)).trans ((put6_only w4 Y _ _ _ _ _ _).old (by have:=HX.out.1;omega) (by have:=HB4.out.size;have:=H2.out.2.2.1.size;omega)),fun h=>absurd h HBAD.out,fun _=>rfl⟩
     · have t1:decide (k < 0)=false:=by simpa using h1
       have t2:decide (65536 < k)=false:=by simpa using h2
       have t3:decide ((65536:Int) < (script.length:Int))=true:=by simp only [decide_eq_true_eq];omega
       go_enter Tryz.func11,Tryz.ntmps11
       go_upto_region 1 with fail
       rw [HX.out.1,HW1.out,HXY1.out,HW2.out]
       go_upto_region 3 with (first
        | (go_at_call 14;(with_reducible refine HV.out.mono ?_);rintro e w3 ⟨v8,rfl,ho8,hb3⟩;have q0:w3.cell? ⟨X,0,none⟩=some (.slice a0 ds.length c0):=(H2.out.1.next hb3).cell 0;have q1:w3.cell? ⟨X,1,none⟩=some (.slice a1 ss.length c1):=(H2.out.1.next hb3).cell 1;have HAC:=Lib.hid (HA.out w3 hb3);have HB3:=Lib.hid hb3;have HO8:=Lib.hid ho8;clear hb3 ho8)
        | (go_at_call 15;(with_reducible refine HAC.out.mono ?_);rintro e w4 ⟨v10,rfl,ho10,hb4⟩;have HB4:=Lib.hid (HB3.out.trans (hb4.mono HB3.out.size));have HO10:=Lib.hid ho10;have HO9:=Lib.hid (ownsRow_below HO8.out hb4);clear hb4 ho10) | fail)
       have hy4:=H2.out.2.1.next HB4.out
       have y0:w4.cell? ⟨Y,0,none⟩=some (.int .i64 0):=hy4.cell 0
       have y1:w4.cell? ⟨Y,1,none⟩=some (.int .i64 0):=hy4.cell 1
       have y2:w4.cell? ⟨Y,2,none⟩=some (.int .i64 0):=hy4.cell 2
       have y3:w4.cell? ⟨Y,3,none⟩=some (.slice none 0 0):=hy4.cell 3
       have y4:w4.cell? ⟨Y,4,none⟩=some (.slice none 0 0):=hy4.cell 4
       have y5:w4.cell? ⟨Y,5,none⟩=some (.slice none 0 0):=hy4.cell 5
       have g0:=hy4.free 0
       have g1:=hy4.free 1
       have g2:=hy4.free 2
       have g3:=hy4.free 3
       have g4:=hy4.free 4
       have g5:=hy4.free 5
       have HY4:=Lib.hid hy4
       clear hy4
       go_wp2_with fail
       have hb:=put6_blk HY4.out (.int .i64 0) (.int .i64 0) (.int .i64 0) (.slice none 0 0) (.slice none 0 0) (.slice none 0 0)
       refine bodyPost_ret (results_row_tmp rfl _ _ Y _ #[.int .i64 0,.int .i64 0,.int .i64 0,.slice none 0 0,.slice none 0 0,.slice none 0 0] _ _ rfl hb rfl rfl (by kernel_rfl)) rfl ?_
       exact ⟨zeroO,rfl,(H2.out.2.2.1.trans (HB4.out.mono H2.out.2.2.1.size)).trans ((put6_only w4 Y _ _ _ _ _ _).old (by have:=HX.out.1;omega) (by have:=HB4.out.size;have:=H2.out.2.2.1.size;omega)),fun h=>absurd h HBAD.out,fun _=>rfl⟩
   · rw [if_neg hbad] at hF
     subst hF
     have hk1:¬ k < 0:=by omega
     have hk2:¬ 65536 < k:=by omega
     have hk3:¬ 65536 < script.length:=by omega
     have t1:decide (k < 0)=false:=by simpa using hk1
     have t2:decide (65536 < k)=false:=by simpa using hk2
     have t3:decide ((65536:Int) < (script.length:Int))=false:=by simp only [decide_eq_false_iff_not];omega
     clear hbad
     go_enter Tryz.func11,Tryz.ntmps11
     go_upto_region 1 with fail
     rw [HX.out.1,HW1.out,HXY1.out,HW2.out]
     go_upto_region 3 with (first
      | (go_at_call 14;(with_reducible refine HV.out.mono ?_);rintro e w3 ⟨v8,rfl,ho8,hb3⟩;have q0:w3.cell? ⟨X,0,none⟩=some (.slice a0 ds.length c0):=(H2.out.1.next hb3).cell 0;have q1:w3.cell? ⟨X,1,none⟩=some (.slice a1 ss.length c1):=(H2.out.1.next hb3).cell 1;have HAC:=Lib.hid (HA.out w3 hb3);have HB3:=Lib.hid hb3;have HO8:=Lib.hid ho8;clear hb3 ho8)
      | (go_at_call 15;(with_reducible refine HAC.out.mono ?_);rintro e w4 ⟨v10,rfl,ho10,hb4⟩;have HB4:=Lib.hid (HB3.out.trans (hb4.mono HB3.out.size));have HO10:=Lib.hid ho10;have HO9:=Lib.hid (ownsRow_below HO8.out hb4);clear hb4 ho10) | fail)
     have HN:=Lib.hid (new_any (varsL ds) (arrsL ds) v8 v10 w4 _ _ HO9.out HO10.out HND.out.2.2.2.1 HND.out.2.2.2.2 HND.out.1 HND.out.2.1 HND.out.2.2.1)
     go_upto_region 8 with (first | (go_at_call 27;(with_reducible refine HN.out.mono ?_);rintro e w5 ⟨K,hk,hH0,hm0,hpl,hnv,hab,hr0,rfl,hb5,hmc⟩;have HK:=Lib.hid (And.intro hk (And.intro hH0 (And.intro hm0 (And.intro hpl (And.intro hnv (And.intro hab (And.intro hr0 (And.intro hb5 hmc))))))));clear hk hH0 hm0 hpl hnv hab hr0 hb5 hmc) | fail)
     obtain ⟨hk,hH0,hm0,hpl,hnv,hab,hr0,hb5,hmc⟩:=HK.out
     have m1:w5.cell? ⟨K.M,1,none⟩=some (.slice none 0 0):=hmc.mach.cell 1
     have m2:w5.cell? ⟨K.M,2,none⟩=some (.int .i64 K.E.most):=hmc.mach.cell 2
     have f1:=hmc.mach.free 1
     have f2:=hmc.mach.free 2
     have hbw4:Below w.heap.size w w4:=H2.out.2.2.1.trans (HB4.out.mono H2.out.2.2.1.size)
     have hbw5:Below w.heap.size w w5:=hbw4.trans (hb5.mono hbw4.size)
     have hx5:=((H2.out.1.next HB4.out).next hb5)
     have hy5:=((H2.out.2.1.next HB4.out).next hb5)
     have hlo:w.heap.size≤K.H0:=by rw [hH0];exact hbw4.size
     obtain ⟨kn,hkn⟩:∃ kn:Nat,k=(kn:Int):=⟨k.toNat,by omega⟩
     subst hkn
     have hkl:kn≤65536:=by omega
     have hmc2:=hmc.start hk (k:=kn) (HIN.out.2.2.1.up hbw5 hlo) HIN.out.2.2.2 rfl
     have hab2:K.ab.length=(arrsL ds).length:=by have:=congrArg List.length hab;simpa using this
     have hYH:Y < K.H0:=by rw [hH0];exact Nat.lt_of_lt_of_le H2.out.2.1.lt HB4.out.size
     have hXM:X ≠ K.M:=by have:=hk.m0;have:=H2.out.2.2.2;omega
     have hYM:Y ≠ K.M:=by have:=hk.m0;omega
     have ho6:Only K.M w5 ((w5.setCell ⟨K.M,1,none⟩ (.slice asc script.length csc)).setCell ⟨K.M,2,none⟩ (.int .i64 kn)):=((Only.refl K.M w5).setCell (p:=⟨K.M,1,none⟩) rfl _).setCell (p:=⟨K.M,2,none⟩) rfl _
     obtain ⟨W6,hW6⟩:∃ W6,(w5.setCell ⟨K.M,1,none⟩ (.slice asc script.length csc)).setCell ⟨K.M,2,none⟩ (.int .i64 kn)=W6:=⟨_,rfl⟩
     rw [hW6] at ho6 hmc2
     have hbw6:Below w.heap.size w W6:=hbw5.trans (ho6.old (by have:=hk.m0;omega) hbw5.size)
     have hx6:=hx5.only ho6 hXM
     have hy6:=hy5.only ho6 hYM
     have x6:W6.cell? ⟨X,1,none⟩=some (.slice a1 ss.length c1):=hx6.cell 1
     have hwk:=withM_ok hk hkl
     have hok:okL (withM K kn) .S ss:=well_ok (K:=withM K kn) HIN.out.2.1 HWE.out hpl hnv hab2
     have hrb:RBlk (withM K kn) w ss:=block_any (withM K kn) hwk w hlo ss (fun i hi=>stmt_any (withM K kn) hwk w hlo _ ss[i] (Nat.le_refl _) (okL_at hok i hi).1 (okL_at hok i hi).2)
     have HRUN:=Lib.hid (run_any (withM K kn) hwk (by show K.ab.length≤1024;have:=HND.out.2.2.2.2;omega) hr0 w hlo ss hrb _ (runS ds script) none W6 HIN.out.2.1 hbw6 ⟨_,_,hmc2,rfl⟩)
     have HW6:=Lib.hid hW6
     have H6:=Lib.hid (And.intro hy6 (And.intro hbw6 (And.intro hYH (And.intro hH0 (And.intro hpl ho6.size)))))
     clear hk hH0 hm0 hpl hnv hab hr0 hb5 hmc hbw4 hbw5 hx5 hy5 hmc2 hab2 hYH hXM hYM ho6 hW6 hbw6 hx6 hy6 hwk hok hrb
     go_upto_region 9 with fail
     rw [HW6.out]
     clear m1 m2 f1 f2
     go_wp2_with fail
     refine HRUN.out.mono ?_
     rintro e w7 ⟨u,rfl,hb7,hout⟩
     have hout':OutIn w7 K.H0 (runO ds ss script kn) u:=by
      have e:(withM K kn).E=⟨plW ds,((kn:Int)).toNat⟩:=by
       show (⟨K.E.pl,kn⟩:Rv)=_
       rw [H6.out.2.2.2.2.1]
       rfl
      unfold runO
      rw [← e]
      exact hout
     have HO:=Lib.hid hout'
     obtain ⟨ve,vv,va,rfl,hev,hiv,hrv,-⟩:=hout'
     obtain ⟨a5,c5,rfl⟩:=hev.form
     obtain ⟨b6,c6,rfl⟩:=hiv.form
     obtain ⟨a7,c7,rfl⟩:=hrv.form
     have hy7:Blk w7 Y _ _:=H6.out.1.below hb7 H6.out.2.2.1
     have y0:w7.cell? ⟨Y,0,none⟩=some (.int .i64 0):=hy7.cell 0
     have y1:w7.cell? ⟨Y,1,none⟩=some (.int .i64 0):=hy7.cell 1
     have y2:w7.cell? ⟨Y,2,none⟩=some (.int .i64 0):=hy7.cell 2
     have y3:w7.cell? ⟨Y,3,none⟩=some (.slice none 0 0):=hy7.cell 3
     have y4:w7.cell? ⟨Y,4,none⟩=some (.slice none 0 0):=hy7.cell 4
     have y5:w7.cell? ⟨Y,5,none⟩=some (.slice none 0 0):=hy7.cell 5
     have g0:=hy7.free 0
     have g1:=hy7.free 1
     have g2:=hy7.free 2
     have g3:=hy7.free 3
     have g4:=hy7.free 4
     have g5:=hy7.free 5
     have HY7:=Lib.hid hy7
     have HB7:=Lib.hid hb7
     clear hy7 hb7 hout hev hiv hrv
     obtain ⟨OO,hOO⟩:∃ o,runO ds ss script kn=o:=⟨_,rfl⟩
     rw [hOO] at HO ⊢
     obtain ⟨o1,o2,o3⟩:=OO
     simp only at HO ⊢
     have HOO:=Lib.hid hOO
     clear hOO
     go_wp2_with fail
     have hb:=put6_blk HY7.out (.int .i64 o1) (.int .i64 o2) (.int .i64 o3.steps) (.slice a5 o3.evs.length c5) (.slice (some ⟨b6,0,none⟩) o3.vars.length c6) (.slice a7 o3.arrs.length c7)
     refine bodyPost_ret (results_row_tmp rfl _ _ Y _ #[.int .i64 o1,.int .i64 o2,.int .i64 o3.steps,.slice a5 o3.evs.length c5,.slice (some ⟨b6,0,none⟩) o3.vars.length c6,.slice a7 o3.arrs.length c7] _ _ rfl hb rfl rfl (by kernel_rfl)) rfl ?_
     have ho7:=put6_only w7 Y (.int .i64 o1) (.int .i64 o2) (.int .i64 o3.steps) (.slice a5 o3.evs.length c5) (.slice (some ⟨b6,0,none⟩) o3.vars.length c6) (.slice a7 o3.arrs.length c7)
     have hlo:w.heap.size≤K.H0:=by rw [H6.out.2.2.2.1];exact Nat.le_trans H2.out.2.2.1.size HB4.out.size
     have hbw7:Below w.heap.size w w7:=H6.out.2.1.trans (HB7.out.mono hlo)
     exact ⟨_,rfl,hbw7.trans (ho7.old (by have:=HX.out.1;omega) hbw7.size),fun _=>by rw [HOO.out];exact (HO.out.next (keepsUp_only ho7 H6.out.2.2.1)).lower hlo,fun h=>absurd rfl h⟩
 · rw [if_pos hz] at hF
   subst hF
   have hzb:(WE != 0)=true:=by simpa using hz
   rw [if_neg hz] at HV
   simp only [if_neg hz] at HA
   have HZ:=Lib.hid hz
   clear hz hWE
   go_enter Tryz.func11,Tryz.ntmps11
   go_upto_region 1 with fail
   rw [HX.out.1,HW1.out,HXY1.out,HW2.out]
   go_upto_region 3 with (first
    | (go_at_call 14;(with_reducible refine HV.out.mono ?_);rintro e w3 ⟨v8,rfl,-,hb3⟩;have q0:w3.cell? ⟨X,0,none⟩=some (.slice a0 ds.length c0):=(H2.out.1.next hb3).cell 0;have q1:w3.cell? ⟨X,1,none⟩=some (.slice a1 ss.length c1):=(H2.out.1.next hb3).cell 1;have HAC:=Lib.hid (HA.out w3 hb3);have HB3:=Lib.hid hb3;clear hb3)
    | (go_at_call 15;(with_reducible refine HAC.out.mono ?_);rintro e w4 ⟨v10,rfl,-,hb4⟩;have HB4:=Lib.hid (HB3.out.trans (hb4.mono HB3.out.size));clear hb4) | fail)
   have hy4:=H2.out.2.1.next HB4.out
   have y0:w4.cell? ⟨Y,0,none⟩=some (.int .i64 0):=hy4.cell 0
   have y1:w4.cell? ⟨Y,1,none⟩=some (.int .i64 0):=hy4.cell 1
   have y2:w4.cell? ⟨Y,2,none⟩=some (.int .i64 0):=hy4.cell 2
   have y3:w4.cell? ⟨Y,3,none⟩=some (.slice none 0 0):=hy4.cell 3
   have y4:w4.cell? ⟨Y,4,none⟩=some (.slice none 0 0):=hy4.cell 4
   have y5:w4.cell? ⟨Y,5,none⟩=some (.slice none 0 0):=hy4.cell 5
   have g0:=hy4.free 0
   have g1:=hy4.free 1
   have g2:=hy4.free 2
   have g3:=hy4.free 3
   have g4:=hy4.free 4
   have g5:=hy4.free 5
   have HY4:=Lib.hid hy4
   clear hy4
   go_wp2_with fail
   have hb:=put6_blk HY4.out (.int .i64 0) (.int .i64 0) (.int .i64 0) (.slice none 0 0) (.slice none 0 0) (.slice none 0 0)
   refine bodyPost_ret (results_row_tmp rfl _ _ Y _ #[.int .i64 0,.int .i64 0,.int .i64 0,.slice none 0 0,.slice none 0 0,.slice none 0 0] _ _ rfl hb rfl rfl (by kernel_rfl)) rfl ?_
   exact ⟨zeroO,rfl,(H2.out.2.2.1.trans (HB4.out.mono H2.out.2.2.1.size)).trans ((put6_only w4 Y _ _ _ _ _ _).old (by have:=HX.out.1;omega) (by have:=HB4.out.size;have:=H2.out.2.2.1.size;omega)),fun h=>absurd h HZ.out,fun _=>rfl⟩
open Go Go.RowKit
theorem Blk.at {w:World} {cs:Array Value} {t:TypeId} {b:Nat} (hb:b=w.heap.size):Blk (w.alloc (.cells cs t)) b cs t:=hb ▸ Blk.new w cs t
def e0:ByteArray:=⟨#[]⟩
theorem cells_at (l:List (Bool × Int × Bool)) (i:Nat) (hi:i < l.length):(cellsV l)[i * 3]?=some (.bool l[i].1)∧(cellsV l)[i * 3+1]?=some (.int .i64 l[i].2.1)∧(cellsV l)[i * 3+2]?=some (.bool l[i].2.2):=by
 induction l generalizing i with
 | nil=>simp at hi
 | cons x r ih =>
   have e:cellsV (x :: r)=[.bool x.1,.int .i64 x.2.1,.bool x.2.2] ++ cellsV r:=rfl
   rw [e]
   cases i with
   | zero=>exact ⟨rfl,rfl,rfl⟩
   | succ i =>
     obtain ⟨h1,h2,h3⟩:=ih i (by simpa using hi)
     rw [show (i+1) * 3=i * 3+3 by omega]
     exact ⟨h1,h2,h3⟩
set_option maxRecDepth 100000 in
set_option maxHeartbeats 4000000 in
theorem longs_any (l:List Int) (lo lo':Nat) (v v':Value) (w:World) (h1:IntsIn w lo l v) (h2:IntsIn w lo' l v') :
    Calls Tryz.prog 33 #[v,v'] w (fun e w'=>e=.returned (.bool true)∧Below w.heap.size w w'):=by
 obtain ⟨b,c,rfl,hc1,hc2,hb0,hr⟩:=h1
 obtain ⟨b',c',rfl,hd1,hd2,hb0',hr'⟩:=h2
 have HC1:=Lib.hid hr
 have HC2:=Lib.hid hr'
 have HF:=Lib.hid (show l.length≤maxLen by omega)
 clear hr hr' hc1 hc2 hd1 hd2 hb0 hb0'
 go_enter Tryz.func33,Tryz.ntmps33
 go_wp2_with fail
 go_loopw [5] (fun x wr=>∃ i:Nat,x=.int .i64 i∧i≤l.length∧Below w.heap.size w wr) (fun x _=>l.length - (intOf x).toNat)
 case atStart=>exact ⟨0,rfl,by omega,Below.refl _ _⟩
 case round =>
  obtain ⟨i,rfl,hi,hbr⟩:=hrel
  by_cases hlt:i < l.length
  · have hbi:(i:Int)+1≤9223372036854775807:=by have:=HF.out;unfold maxLen at this;omega
    have m0:=keeps_below hbr _ _ _ (HC1.out i hlt)
    have n0:=keeps_below hbr _ _ _ (HC2.out i hlt)
    obtain ⟨X,hX⟩:∃ X,l[i]=X:=⟨_,rfl⟩
    rw [hX] at m0 n0
    clear hX
    have HBR:=Lib.hid hbr;clear hbr
    go_upto_region 6 with fail
    go_cut [25] (fun s wx=>s=.bool false∧Below w.heap.size w wx)
    case first =>
     go_region
     go_wp2_with fail
     go_meet
     exact ⟨by simp,HBR.out.drew⟩
    case rest =>
     obtain ⟨rfl,hb⟩:=hcut
     clear m0 n0 HBR
     go_wp2_with fail
     go_roundw
     case rel=>exact ⟨i+1,by go_num,by omega,hb⟩
     case measure=>simp [intOf];omega
  · obtain rfl:i=l.length:=by omega
    go_wp2_with fail
    go_ret
    exact ⟨rfl,hbr⟩
set_option maxRecDepth 100000 in
set_option maxHeartbeats 8000000 in
theorem outcome_any (o:Int × Int × Rn) (lo lo':Nat) (v v':Value) (w:World) (h1:OutIn w lo o v) (h2:OutIn w lo' o v') :
    Calls Tryz.prog 13 #[v,v'] w (fun e w'=>e=.returned (.bool true)∧Below w.heap.size w w'):=by
 obtain ⟨st,wg,s⟩:=o
 obtain ⟨ve,vv,va,rfl,hev,hiv,hav,hs,hel,hvl,hal⟩:=h1
 obtain ⟨ve',vv',va',rfl,hev',hiv',hav',-⟩:=h2
 simp only at hev hiv hav hs hel hvl hal hev' hiv' hav' ⊢
 have HLV:=Lib.hid (fun W (hb:Below w.heap.size w W)=>longs_any s.vars lo lo' vv vv' W (hiv.next (fun b o u _ h=>keeps_below hb b o u h)) (hiv'.next (fun b o u _ h=>keeps_below hb b o u h)))
 have HBW:=Lib.hid (fun (o1 o2:Obj)=>((Below.refl w.heap.size w).alloc (Nat.le_refl _) o1).alloc (by simp) o2)
 obtain ⟨b3,c3,rfl,-⟩:=hiv
 obtain ⟨b4,c4,rfl,-⟩:=hiv'
 obtain ⟨e1,e2,rfl,-,-,hE⟩:=hev
 obtain ⟨e3,e4,rfl,-,-,hE'⟩:=hev'
 obtain ⟨r1,r2,rfl,-,-,hR⟩:=hav
 obtain ⟨r3,r4,rfl,-,-,hR'⟩:=hav'
 have HE:=Lib.hid (And.intro hE hE')
 have HR:=Lib.hid (And.intro hR hR')
 have HS:=Lib.hid (And.intro hs (And.intro hel (And.intro hvl hal)))
 clear hE hE' hR hR' hs hel hvl hal
 obtain ⟨B1,hB1⟩:∃ d,w.heap.size+1=d:=⟨_,rfl⟩
 have HB1:=Lib.hid hB1
 clear hB1
 go_enter Tryz.func13,Tryz.ntmps13
 go_wp2_with (first | (go_at_call 33;(with_reducible refine (HLV.out _ (HBW.out _ _)).mono ?_);rintro e w1 ⟨rfl,hb1⟩;have HW1:=Lib.hid (And.intro (((Blk.new w _ _).alloc _).next hb1) (And.intro ((Blk.at (b:=w.heap.size+1) (by simp)).next hb1) ((HBW.out _ _).trans (hb1.mono (HBW.out _ _).size))));clear hb1;have p5:w1.cell? ⟨w.heap.size,5,none⟩=some (.slice r1 s.arrs.length r2):=HW1.out.1.cell 5;have q5:w1.cell? ⟨w.heap.size+1,5,none⟩=some (.slice r3 s.arrs.length r4):=HW1.out.2.1.cell 5) | fail)
 clear p5 q5
 go_loopw [5] (fun x wr=>∃ i:Nat,x=.int .i64 i∧i≤s.evs.length∧Below w1.heap.size w1 wr) (fun x _=>s.evs.length - (intOf x).toNat)
 case atStart=>exact ⟨0,rfl,by omega,Below.refl _ _⟩
 case round =>
  obtain ⟨i,rfl,hi,hbr⟩:=hrel
  have c0:wr.cell? ⟨w.heap.size,3,none⟩=some (.slice e1 s.evs.length e2):=(HW1.out.1.next hbr).cell 3
  have d0:wr.cell? ⟨w.heap.size+1,3,none⟩=some (.slice e3 s.evs.length e4):=(HW1.out.2.1.next hbr).cell 3
  by_cases hlt:i < s.evs.length
  · have hbi:(i:Int)+1≤9223372036854775807:=by have:=HS.out.1;have:=HS.out.2.1;omega
    have hxl:¬ s.evs.length=0:=by omega
    obtain ⟨g,rfl,-,hcell⟩:=HE.out.1.resolve_left hxl
    obtain ⟨g',rfl,-,hcell'⟩:=HE.out.2.resolve_left hxl
    obtain ⟨q0,q1,q2⟩:=cells_at s.evs i hlt
    obtain ⟨X,Y,Z⟩:=s.evs[i]
    have up:∀ {b o:Nat} {u:Value},w.cell? ⟨b,o,none⟩=some u→wr.cell? ⟨b,o,none⟩=some u:=fun h=>keeps_below hbr _ _ _ (keeps_below HW1.out.2.2 _ _ _ h)
    have m0:=up (hcell _ _ q0)
    have m1:=up (hcell _ _ q1)
    have m2:=up (hcell _ _ q2)
    have n0:=up (hcell' _ _ q0)
    have n1:=up (hcell' _ _ q1)
    have n2:=up (hcell' _ _ q2)
    clear up q0 q1 q2 hcell hcell' hxl
    have HBR:=Lib.hid hbr;clear hbr
    go_upto_region 6 with fail
    go_cut [69] (fun s wx=>s=.bool false∧Below w1.heap.size w1 wx)
    case first =>
     go_region
     go_wp2_with fail
     go_meet
     exact ⟨by simp,HBR.out.drew⟩
    case rest =>
     obtain ⟨rfl,hb⟩:=hcut
     clear m0 m1 m2 n0 n1 n2 HBR c0 d0
     go_wp2_with fail
     go_roundw
     case rel=>exact ⟨i+1,by go_num,by omega,hb⟩
     case measure=>simp [intOf];omega
  · obtain rfl:i=s.evs.length:=by omega
    have HBR:=Lib.hid (hbr.mono HW1.out.2.2.size |> HW1.out.2.2.trans)
    have HX:=Lib.hid (And.intro (HW1.out.1.next hbr) (HW1.out.2.1.next hbr))
    clear hbr hi
    go_wp2_with fail
    clear c0 d0
    obtain ⟨wm,hwm⟩:∃ x,x=wr:=⟨_,rfl⟩
    subst hwm
    go_loopw [6] (fun x wz=>∃ i:Nat,x=.int .i64 i∧i≤s.arrs.length∧Below wm.heap.size wm wz) (fun x _=>s.arrs.length - (intOf x).toNat)
    case atStart=>exact ⟨0,rfl,by omega,Below.refl _ _⟩
    case round =>
     obtain ⟨i,rfl,hi,hbz⟩:=hrel
     have c0:wr.cell? ⟨w.heap.size,5,none⟩=some (.slice r1 s.arrs.length r2):=(HX.out.1.next hbz).cell 5
     have d0:wr.cell? ⟨w.heap.size+1,5,none⟩=some (.slice r3 s.arrs.length r4):=(HX.out.2.next hbz).cell 5
     by_cases hlt:i < s.arrs.length
     · have hbi:(i:Int)+1≤9223372036854775807:=by have:=HS.out.2.2.2;omega
       have hxl:¬ s.arrs.length=0:=by omega
       obtain ⟨g,rfl,-,hcell⟩:=HR.out.1.resolve_left hxl
       obtain ⟨g',rfl,-,hcell'⟩:=HR.out.2.resolve_left hxl
       obtain ⟨u,hu,hui⟩:=hcell i hlt
       obtain ⟨u',hu',hui'⟩:=hcell' i hlt
       have hww:=HBR.out.trans (hbz.mono HBR.out.size)
       have m0:=keeps_below hww _ _ _ hu
       have n0:=keeps_below hww _ _ _ hu'
       have HLR:=Lib.hid (fun W (hb:Below w.heap.size w W)=>longs_any s.arrs[i] lo lo' u u' W (hui.next (fun b o u _ h=>keeps_below hb b o u h)) (hui'.next (fun b o u _ h=>keeps_below hb b o u h)))
       have HWW:=Lib.hid hww.drew
       have HZZ:=Lib.hid hbz
       obtain ⟨gb,gc,rfl,-⟩:=hui
       obtain ⟨gb',gc',rfl,-⟩:=hui'
       clear hww hcell hcell' hxl hu hu' hbz
       obtain ⟨L,hL⟩:∃ L,s.arrs[i].length=L:=⟨_,rfl⟩
       rw [hL] at HLR m0 n0
       clear hL
       go_upto_region 11 with fail
       go_cut [88] (fun s wx=>s=.bool false∧Below wm.heap.size wm wx)
       case first =>
        go_region_with (first | (go_at_call 33;(with_reducible refine (HLR.out _ HWW.out).mono ?_);rintro e w2 ⟨rfl,hb2⟩) | fail)
        all_goals (go_wp2_with fail;go_meet;exact ⟨by simp,HZZ.out.drew.trans (hb2.mono HZZ.out.drew.size)⟩)
       case rest =>
        obtain ⟨rfl,hb⟩:=hcut
        clear m0 n0 c0 d0
        go_wp2_with fail
        go_roundw
        case rel=>exact ⟨i+1,by go_num,by omega,hb⟩
        case measure=>simp [intOf];omega
     · obtain rfl:i=s.arrs.length:=by omega
       have HBZ:=Lib.hid (HBR.out.trans (hbz.mono HBR.out.size))
       clear hbz hi
       go_wp2_with fail
       go_ret
       exact ⟨rfl,HBZ.out⟩
end Go.Proofs.YtmohmggnjldddaaGreatDoor
