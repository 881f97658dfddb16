/-
  Plain: a well program runs: each name has its place, each node its parts.
-/
import Derived.Test.YtmohmggnjldddaaGreatDoorQRunN
import Derived.Recover
namespace Go.Proofs.YtmohmggnjldddaaGreatDoor
open Go Go.RowKit Go.Maps
theorem as_ended (v:Value) (xT:TypeId) (w:World):(Instr.typeAssert (.iface 117 v) xT 117 true).run Tryz.prog w=.ok (.tuple #[v,.bool true]) w:=assert_yes (by kernel_rfl) v xT w
theorem as_nil (w:World):(Instr.typeAssert .nilIface 20 117 true).run Tryz.prog w=.ok (.tuple #[.agg #[.int .i64 0,.int .i64 0],.bool false]) w:=by kernel_rfl
set_option maxRecDepth 100000 in
theorem caught (b:Nat) (x y st wr:Int) (older:List PanicEntry) (w:World) (hB:Blk w b #[.int .i64 x,.int .i64 y] 117) :
    CallsD Tryz.prog 76 #[.pointer (some ⟨b,0,none⟩)] (.panicking (endedV st wr :: older)) w fun e u' w' =>
     e=.returned (.tuple #[])∧u'=.panicking ({ endedV st wr with recovered:=true } :: older)∧w'=((w.alloc (.cells #[.int .i64 st,.int .i64 wr] 117)).setCell ⟨b,0,none⟩ (.int .i64 st)).setCell ⟨b,1,none⟩ (.int .i64 wr):=by
 have hy:=as_ended
 have hB2:=hB.alloc (.cells #[.int .i64 st,.int .i64 wr] 117)
 have c0:(w.alloc (.cells #[.int .i64 st,.int .i64 wr] 117)).cell? ⟨b,0,none⟩=some (.int .i64 x):=hB2.cell 0
 have c1:(w.alloc (.cells #[.int .i64 st,.int .i64 wr] 117)).cell? ⟨b,1,none⟩=some (.int .i64 y):=hB2.cell 1
 have z0:(w.alloc (.cells #[.int .i64 st,.int .i64 wr] 117)).frozen? ⟨b,0,none⟩=false:=hB2.free 0
 have z1:(w.alloc (.cells #[.int .i64 st,.int .i64 wr] 117)).frozen? ⟨b,1,none⟩=false:=hB2.free 1
 clear hB hB2
 refine callsD_of_wpS Tryz.func76 rfl fun c₀ cs hu=>?_
 unfold endedV at hu
 apply wpS_seq
 apply wpS_region
 simp [wpOpsS,go_sem,recoverD,hu,Tryz.ntmps76,Exit.thenS]
 change Code.wpS _ _ _ ⟨#[.pointer (some ⟨b,0,none⟩),.iface 117 (.agg #[.int .i64 st,.int .i64 wr]),undef,undef,.iface 117 (.agg #[.int .i64 st,.int .i64 wr]),undef,undef,undef,undef,undef,undef,undef,undef,undef,undef],[]⟩ _ _
 refine wpS_of_wp ?_
 go_wp2_with fail
 exact ⟨rfl,_,rfl,_,results_none rfl _ _ _,rfl,rfl,rfl⟩
set_option maxRecDepth 100000 in
theorem idle (b:Nat) (w:World) :
    CallsD Tryz.prog 76 #[.pointer (some ⟨b,0,none⟩)] .returning w fun e u' w' =>
     e=.returned (.tuple #[])∧u'=.returning∧w'=w.alloc (.cells #[.int .i64 0,.int .i64 0] 117):=by
 have hy:=as_nil
 refine callsD_of_wpS Tryz.func76 rfl fun c₀ cs hu=>?_
 apply wpS_seq
 apply wpS_region
 simp [wpOpsS,go_sem,recoverD,hu,Tryz.ntmps76,Exit.thenS]
 change Code.wpS _ _ _ ⟨#[.pointer (some ⟨b,0,none⟩),.nilIface,undef,undef,.nilIface,undef,undef,undef,undef,undef,undef,undef,undef,undef,undef],[]⟩ _ _
 refine wpS_of_wp ?_
 go_wp2_with fail
 refine ⟨rfl,.returning,?_,_,results_none rfl _ _ _,rfl,rfl,rfl⟩
 rw [← hu]
def outR:Res Unit→Int × Int × Rn
 | .go _ s=>(2,0,s)
 | .stop st wr s=>(st,wr,s)
def EndTo (K:Me) (r:Option Nat) (w:World) (o:Int × Int × Rn):Ending→World→Prop:=fun e w'=>e=.returned (.agg #[.int .i64 o.1,.int .i64 o.2.1])∧∃ r',Kr K r r' w w'∧At K w' o.2.2 r'
set_option maxRecDepth 100000 in
theorem endOf_any (K:Me) (hk:K.ok) (w0:World) (hH:w0.heap.size≤K.H0) (l:List Nd) (hst:RBlk K w0 l) (v:Value) (s:Rn) (r:Option Nat) (w:World) (hl:SlIn w0 .S l v) (hw:Below w0.heap.size w0 w) (h:At K w s r) :
    Calls Tryz.prog 45 #[.pointer (some ⟨K.M,0,none⟩),v] w (EndTo K r w (outR (stL K.E l s))):=by
 have hmf:∀ (fn:Fn) (first cap:Array Value) (w:World),(Instr.makeFunc fn first cap).run Tryz.prog w=.ok (.func fn first cap) w:=fun _ _ _ _=>rfl
 have ht:=Tm.new h #[.int .i64 0,.int .i64 0] 117
 have h1:=h.alloc hk (.cells #[.int .i64 0,.int .i64 0] 117)
 obtain ⟨W1,hW1⟩:∃ W1,w.alloc (.cells #[.int .i64 0,.int .i64 0] 117)=W1:=⟨_,rfl⟩
 obtain ⟨X,hX⟩:∃ X,w.heap.size=X:=⟨_,rfl⟩
 have hkr:Kr K r r w W1:=by rw [← hW1];exact (Kr.refl K r w).alloc _
 rw [hW1] at ht h1
 rw [hX] at ht
 have hw1:Below w0.heap.size w0 W1:=hw.trans ((hkr.old hk h).mono hH)
 obtain ⟨a,c,rfl,hl0⟩:∃ a c,v=.slice a l.length c∧SlIn w0 .S l (.slice a l.length c):=by
  have h2:=hl
  obtain ⟨a,c,rfl,-⟩:=hl
  exact ⟨a,c,rfl,h2⟩
 have HC:=Lib.hid (hst _ s r W1 hl0 hw1 h1)
 obtain ⟨R,hR⟩:∃ R,stL K.E l s=R:=⟨_,rfl⟩
 rw [hR] at HC ⊢
 have HT:=Lib.hid (And.intro ht hkr)
 have HXW:=Lib.hid (show w.heap.size≤X by omega)
 have HW1:=Lib.hid hW1
 have HX:=Lib.hid hX
 clear hst hl hw h ht h1 hkr hw1 hl0 hR hW1 hX
 go_enter_defers Tryz.func45,Tryz.ntmps45
 go_upto_region 1 with fail
 rw [HW1.out,HX.out]
 clear HW1
 go_wp2_with fail
 refine HC.out.mono ?_
 rintro e w3 ⟨r3,hk3,⟨u,s3,hr3,rfl,-,h3⟩ | ⟨st,wr3,s3,hr3,rfl,h3⟩⟩
 · have hx3:=HT.out.1.kr hk hk3
   have y0:w3.cell? ⟨X,0,none⟩=some (.int .i64 0):=hx3.blk.cell 0
   have y1:w3.cell? ⟨X,1,none⟩=some (.int .i64 0):=hx3.blk.cell 1
   have f0:=hx3.blk.free 0
   have f1:=hx3.blk.free 1
   have H3:=Lib.hid (And.intro hk3 (And.intro hr3 (And.intro h3 hx3)))
   clear hk3 hr3 h3 hx3
   go_wp2_with fail
   refine leaves_cons (f:=76) (args:=#[.pointer (some ⟨X,0,none⟩)]) (by simp) (by simp [go_sem]) ?_
   refine (idle X _).mono ?_
   rintro e u' w4 ⟨rfl,rfl,rfl⟩
   obtain ⟨hk3,hr3,h3,hx3⟩:=H3.out
   have ho:Only X w3 (((w3.setCell ⟨X,0,none⟩ (.int .i64 2)).setCell ⟨X,1,none⟩ (.int .i64 0)).alloc (.cells #[.int .i64 0,.int .i64 0] 117)):=(((Only.refl X w3).setCell (p:=⟨X,0,none⟩) rfl _).setCell (p:=⟨X,1,none⟩) rfl _).alloc _
   have hb:Blk (((w3.setCell ⟨X,0,none⟩ (.int .i64 2)).setCell ⟨X,1,none⟩ (.int .i64 0)).alloc (.cells #[.int .i64 0,.int .i64 0] 117)) X #[.int .i64 2,.int .i64 0] 117:=((hx3.blk.set 0 (.int .i64 2)).set 1 (.int .i64 0)).alloc _
   refine ⟨_,results_cell_row rfl _ _ X _ #[.int .i64 2,.int .i64 0] _ _ rfl hb rfl rfl (by kernel_rfl),?_⟩
   rw [hr3]
   exact ⟨rfl,r3,(HT.out.2.trans hk3).tmp ho HXW.out,h3.tmp hk hx3.base hx3.row ho⟩
 · have hx3:=HT.out.1.kr hk hk3
   refine leaves_cons (f:=76) (args:=#[.pointer (some ⟨X,0,none⟩)]) (by simp) (by simp [go_sem]) ?_
   refine (caught X 0 0 st wr3 [] w3 hx3.blk).mono ?_
   rintro e u' w4 ⟨rfl,rfl,rfl⟩
   have ho:Only X w3 (((w3.alloc (.cells #[.int .i64 st,.int .i64 wr3] 117)).setCell ⟨X,0,none⟩ (.int .i64 st)).setCell ⟨X,1,none⟩ (.int .i64 wr3)):=(((Only.refl X w3).alloc _).setCell (p:=⟨X,0,none⟩) rfl _).setCell (p:=⟨X,1,none⟩) rfl _
   have hb:Blk (((w3.alloc (.cells #[.int .i64 st,.int .i64 wr3] 117)).setCell ⟨X,0,none⟩ (.int .i64 st)).setCell ⟨X,1,none⟩ (.int .i64 wr3)) X #[.int .i64 st,.int .i64 wr3] 117:=((hx3.blk.alloc _).set 0 (.int .i64 st)).set 1 (.int .i64 wr3)
   refine ⟨_,results_cell_row rfl _ _ X _ #[.int .i64 st,.int .i64 wr3] _ _ rfl hb rfl rfl (by kernel_rfl),?_⟩
   rw [hr3]
   exact ⟨rfl,r3,(HT.out.2.trans hk3).tmp ho HXW.out,h3.tmp hk hx3.base hx3.row ho⟩
def IntsIn (w:World) (lo:Nat) (l:List Int) (v:Value):Prop:=∃ b c,v=.slice (some ⟨b,0,none⟩) l.length c∧l.length≤c∧c≤maxLen∧lo≤b∧∀ i (h:i < l.length),w.cell? ⟨b,i,none⟩=some (.int .i64 l[i])
def RowsIn (w:World) (lo:Nat) (l:List (List Int)) (v:Value):Prop:=∃ a c,v=.slice a l.length c∧l.length≤c∧c≤maxLen∧(l.length=0 ∨ ∃ b,a=some ⟨b,0,none⟩∧lo≤b∧∀ i (h:i < l.length),∃ u,w.cell? ⟨b,i,none⟩=some u∧IntsIn w lo l[i] u)
def EvsIn (w:World) (lo:Nat) (l:List (Bool × Int × Bool)) (v:Value):Prop:=∃ a c,v=.slice a l.length c∧l.length≤c∧c≤maxLen∧(l.length=0 ∨ ∃ b,a=some ⟨b,0,none⟩∧lo≤b∧∀ (j:Nat) u,(cellsV l)[j]?=some u→w.cell? ⟨b,j,none⟩=some u)
def OutIn (w:World) (lo:Nat) (o:Int × Int × Rn) (v:Value):Prop:=∃ ve vv va,v=.agg #[.int .i64 o.1,.int .i64 o.2.1,.int .i64 o.2.2.steps,ve,vv,va]∧EvsIn w lo o.2.2.evs ve∧IntsIn w lo o.2.2.vars vv∧RowsIn w lo o.2.2.arrs va∧o.2.2.steps≤65536∧o.2.2.evs.length≤o.2.2.steps∧o.2.2.vars.length≤1024∧o.2.2.arrs.length≤1024
def KeepsUp (lo:Nat) (w w':World):Prop:=∀ b o u,lo≤b→w.cell? ⟨b,o,none⟩=some u→w'.cell? ⟨b,o,none⟩=some u
theorem IntsIn.next {w w':World} {lo:Nat} {l:List Int} {v:Value} (h:IntsIn w lo l v) (hk:KeepsUp lo w w'):IntsIn w' lo l v:=by
 obtain ⟨b,c,h1,h2,h3,h0,h4⟩:=h
 exact ⟨b,c,h1,h2,h3,h0,fun i hi=>hk _ _ _ h0 (h4 i hi)⟩
theorem RowsIn.next {w w':World} {lo:Nat} {l:List (List Int)} {v:Value} (h:RowsIn w lo l v) (hk:KeepsUp lo w w'):RowsIn w' lo l v:=by
 obtain ⟨a,c,h1,h2,h3,h4⟩:=h
 refine ⟨a,c,h1,h2,h3,h4.imp id ?_⟩
 rintro ⟨b,h5,h0,h6⟩
 refine ⟨b,h5,h0,fun i hi=>?_⟩
 obtain ⟨u,h7,h8⟩:=h6 i hi
 exact ⟨u,hk _ _ _ h0 h7,h8.next hk⟩
theorem EvsIn.next {w w':World} {lo:Nat} {l:List (Bool × Int × Bool)} {v:Value} (h:EvsIn w lo l v) (hk:KeepsUp lo w w'):EvsIn w' lo l v:=by
 obtain ⟨a,c,h1,h2,h3,h4⟩:=h
 refine ⟨a,c,h1,h2,h3,h4.imp id ?_⟩
 rintro ⟨b,h5,h0,h6⟩
 exact ⟨b,h5,h0,fun j u hj=>hk _ _ _ h0 (h6 j u hj)⟩
theorem OutIn.next {w w':World} {lo:Nat} {o:Int × Int × Rn} {v:Value} (h:OutIn w lo o v) (hk:KeepsUp lo w w'):OutIn w' lo o v:=by
 obtain ⟨ve,vv,va,h1,h2,h3,h4,h5⟩:=h
 exact ⟨ve,vv,va,h1,h2.next hk,h3.next hk,h4.next hk,h5⟩
theorem keepsUp_below {w w':World} (lo:Nat) (h:Below w.heap.size w w'):KeepsUp lo w w':=fun b o u _ hc=>keeps_below h b o u hc
theorem keepsUp_only {w w':World} {lo Y:Nat} (h:Only Y w w') (hY:Y < lo):KeepsUp lo w w':=fun b o u hb hc=>only_cell h hc (by show b ≠ Y;omega)
theorem Mc.out {K:Me} (hk:K.ok) (hab:K.ab.length≤1024) {w w':World} {s:Rn} {sv ve:Value} (h:Mc K w s sv ve) {Y:Nat} (hr0:K.ab.length=0 ∨ K.H0≤K.ar) (hY:K.B1≤Y) (hr:ve.ownBlock ≠ some Y) (hkp:∀ b o u,b ≠ K.M→b ≠ Y→w.cell? ⟨b,o,none⟩=some u→w'.cell? ⟨b,o,none⟩=some u) (st wr:Int):OutIn w' K.H0 (st,wr,s) (.agg #[.int .i64 st,.int .i64 wr,.int .i64 s.steps,ve,.slice (some ⟨K.vb,0,none⟩) K.nv K.nv,K.va]):=by
 have hst:=h.steps
 have hmo:=hk.most
 have hfew:=h.few
 refine ⟨ve,_,K.va,rfl,?_,?_,?_,by show s.steps≤65536;omega,hfew,by show s.vars.length≤1024;rw [h.nv];exact hk.nz,by show s.arrs.length≤1024;rw [h.na];exact hab⟩
 · rcases h.evs.2 with ⟨rfl,h0⟩ | ⟨g,cap,cur,hva,hg,hh,hn,hm,hcs,ht⟩
   · exact ⟨none,0,by rw [h0],by show s.evs.length≤0;omega,Nat.zero_le _,.inl h0⟩
   · refine ⟨some ⟨g,0,none⟩,cap,hva,hn,hm,?_⟩
     by_cases h0:s.evs.length=0
     · exact .inl h0
     · refine .inr ⟨g,rfl,Nat.le_trans hk.b0 hg,fun j u hj=>?_⟩
       have h1:=h.evs.cells (g:=g) (by rw [hva];rfl) j u hj
       have h2:w.cell? ⟨g,j,none⟩=some u:=by simpa [add_none] using h1
       exact hkp g j u (fun e=>by have:=hk.m1;omega) (fun e=>hr (by rw [hva,← e];rfl)) h2
 · exact ⟨K.vb,K.nv,by show Value.slice _ _ _=.slice _ s.vars.length _;rw [h.nv],by show s.vars.length≤_;rw [h.nv];exact Nat.le_refl _,by have:=hk.nz;unfold maxLen;omega,hk.v0,fun i hi=>by
    have hx:=(vars_at h i (by rw [← h.nv];exact hi)).1
    rw [List.getD_eq_getElem?_getD,List.getElem?_eq_getElem hi] at hx
    exact hkp _ _ _ (fun e=>hk.mv e.symm) (fun e=>by have:=hk.v1;omega) hx⟩
 · obtain ⟨a,c,hva,hlc,hcm,hcase⟩:=hk.rows
   refine ⟨a,c,by rw [hva];show _=Value.slice a s.arrs.length c;rw [h.na],by show s.arrs.length≤c;rw [h.na];exact hlc,hcm,?_⟩
   by_cases h0:s.arrs.length=0
   · exact .inl h0
   · refine .inr ⟨K.ar,hcase.resolve_left (by rw [← h.na];exact h0),hr0.resolve_left (by rw [← h.na];exact h0),fun i hi=>?_⟩
     have hi2:i < K.ab.length:=by rw [← h.na];exact hi
     refine ⟨_,hkp _ _ _ (fun e=>hk.mr e.symm) (fun e=>by have:=hk.r1;omega) (h.rows i hi2),K.ab[i].1,K.ab[i].2,?_,?_,?_,hk.a0 _ (List.getElem_mem hi2),?_⟩
     · have hz:=h.sz i hi2
       rw [List.getD_eq_getElem?_getD,List.getElem?_eq_getElem hi] at hz
       have hz:(s.arrs[i]).length=K.ab[i].2:=hz
       show rowV _=.slice _ (s.arrs[i]).length _
       rw [hz]
       rfl
     · have hz:=h.sz i hi2
       rw [List.getD_eq_getElem?_getD,List.getElem?_eq_getElem hi] at hz
       have hz:(s.arrs[i]).length=K.ab[i].2:=hz
       show (s.arrs[i]).length≤_
       omega
     · have:=hk.az _ (List.getElem_mem hi2);unfold maxLen;omega
     · intro j hj
       have hb:=h.arrs i hi2
       rw [List.getD_eq_getElem?_getD,List.getElem?_eq_getElem hi] at hb
       have hb:Blk w K.ab[i].1 (intsV s.arrs[i]) 2:=hb
       have hj:j < (s.arrs[i]).length:=hj
       have hmem:=List.getElem_mem hi2
       refine hkp _ _ _ (fun e=>hk.ma _ hmem e.symm) (fun e=>by have:=hk.a1 _ hmem;omega) ?_
       rw [hb.cell,intsV_at _ _ hj,List.getD_eq_getElem?_getD,List.getElem?_eq_getElem hj]
       rfl
set_option maxRecDepth 100000 in
set_option maxHeartbeats 4000000 in
theorem run_any (K:Me) (hk:K.ok) (hab:K.ab.length≤1024) (hr0:K.ab.length=0 ∨ K.H0≤K.ar) (w0:World) (hH:w0.heap.size≤K.H0) (l:List Nd) (hst:RBlk K w0 l) (v:Value) (s:Rn) (r:Option Nat) (w:World) (hl:SlIn w0 .S l v) (hw:Below w0.heap.size w0 w) (h:At K w s r) :
    Calls Tryz.prog 28 #[.pointer (some ⟨K.M,0,none⟩),v] w (fun e w'=>∃ u,e=.returned u∧Below K.H0 w w'∧OutIn w' K.H0 (outR (stL K.E l s)) u):=by
 obtain ⟨W1,hW1⟩:∃ W1,w.alloc (.cells #[.int .i64 0,.int .i64 0,.int .i64 0,.slice none 0 0,.slice none 0 0,.slice none 0 0] 47)=W1:=⟨_,rfl⟩
 have ht:=Tm.new h #[.int .i64 0,.int .i64 0,.int .i64 0,.slice none 0 0,.slice none 0 0,.slice none 0 0] 47
 have h1:=h.alloc hk (.cells #[.int .i64 0,.int .i64 0,.int .i64 0,.slice none 0 0,.slice none 0 0,.slice none 0 0] 47)
 obtain ⟨Y,hY⟩:∃ Y,w.heap.size=Y:=⟨_,rfl⟩
 have hkr:Kr K r r w W1:=by rw [← hW1];exact (Kr.refl K r w).alloc _
 rw [hW1] at ht h1
 rw [hY] at ht
 have hold:=hkr.old hk h
 have hw1:Below w0.heap.size w0 W1:=hw.trans (hold.mono hH)
 obtain ⟨a,c,rfl,hl0⟩:∃ a c,v=.slice a l.length c∧SlIn w0 .S l (.slice a l.length c):=by
  have h2:=hl
  obtain ⟨a,c,rfl,-⟩:=hl
  exact ⟨a,c,rfl,h2⟩
 have HC:=Lib.hid (endOf_any K hk w0 hH l hst _ s r W1 hl0 hw1 h1)
 obtain ⟨O,hO⟩:∃ R,outR (stL K.E l s)=R:=⟨_,rfl⟩
 rw [hO] at HC ⊢
 obtain ⟨st,wr,s'⟩:=O
 unfold EndTo at HC
 simp only at HC
 have HT:=Lib.hid (And.intro ht (And.intro hkr (And.intro h h1)))
 have HW1:=Lib.hid hW1
 have HY:=Lib.hid hY
 have HYB:=Lib.hid (show K.H0≤Y by have:=hk.b0;have:=ht.base;omega)
 clear hst hl hw h ht h1 hkr hw1 hl0 hO hW1 hY hold
 go_enter Tryz.func28,Tryz.ntmps28
 go_upto_region 1 with fail
 rw [HW1.out,HY.out]
 clear HW1
 go_upto_region 2 with (first | (go_at_call 45;(with_reducible refine HC.out.mono ?_);rintro e w3 ⟨rfl,r3,hk3,h3⟩;have HK3:=Lib.hid (And.intro hk3 h3);clear hk3 h3) | fail)
 have hw3:=HK3.out.2.size
 have hy3:=HT.out.1.kr hk HK3.out.1
 have hb3:Below K.H0 w w3:=(HT.out.2.1.trans HK3.out.1).old hk HT.out.2.2.1
 obtain ⟨sv,ve,hm,he⟩:=HK3.out.2
 have hve:ve.ownBlock ≠ some Y:=by rw [he];exact hy3.row
 obtain ⟨W4,hW4⟩:∃ W4,w3.alloc (.cells #[.int .i64 st,.int .i64 wr] 117)=W4:=⟨_,rfl⟩
 obtain ⟨X,hX⟩:∃ X,w3.heap.size=X:=⟨_,rfl⟩
 have hx4:Blk W4 X #[.int .i64 st,.int .i64 wr] 117:=by rw [← hW4,← hX];exact Blk.new w3 _ _
 have hM4:=hm.mach.alloc (.cells #[.int .i64 st,.int .i64 wr] 117)
 have hY4:=hy3.blk.alloc (.cells #[.int .i64 st,.int .i64 wr] 117)
 rw [hW4] at hM4 hY4
 have hMY:K.M ≠ Y:=by have:=hk.m1;have:=hy3.base;omega
 have hXM:K.M ≠ X:=by have:=hk.m1;omega
 have hYX:Y ≠ X:=by have:=hy3.blk.lt;omega
 have x0:W4.cell? ⟨X,0,none⟩=some (.int .i64 st):=hx4.cell 0
 have x1:W4.cell? ⟨X,1,none⟩=some (.int .i64 wr):=hx4.cell 1
 have m3:W4.cell? ⟨K.M,3,none⟩=some (.int .i64 0):=hM4.cell 3
 have m4:W4.cell? ⟨K.M,4,none⟩=some (.int .i64 0):=hM4.cell 4
 have m5:W4.cell? ⟨K.M,5,none⟩=some (.int .i64 s'.steps):=hM4.cell 5
 have m6:W4.cell? ⟨K.M,6,none⟩=some ve:=hM4.cell 6
 have m7:W4.cell? ⟨K.M,7,none⟩=some (.slice (some ⟨K.vb,0,none⟩) K.nv K.nv):=hM4.cell 7
 have m8:W4.cell? ⟨K.M,8,none⟩=some K.va:=hM4.cell 8
 have f3:W4.frozen? ⟨K.M,3,none⟩=false:=hM4.free 3
 have f4:W4.frozen? ⟨K.M,4,none⟩=false:=hM4.free 4
 have y0:W4.cell? ⟨Y,0,none⟩=some (.int .i64 0):=hY4.cell 0
 have y1:W4.cell? ⟨Y,1,none⟩=some (.int .i64 0):=hY4.cell 1
 have y2:W4.cell? ⟨Y,2,none⟩=some (.int .i64 0):=hY4.cell 2
 have y3:W4.cell? ⟨Y,3,none⟩=some (.slice none 0 0):=hY4.cell 3
 have y4:W4.cell? ⟨Y,4,none⟩=some (.slice none 0 0):=hY4.cell 4
 have y5:W4.cell? ⟨Y,5,none⟩=some (.slice none 0 0):=hY4.cell 5
 have g0:W4.frozen? ⟨Y,0,none⟩=false:=hY4.free 0
 have g1:W4.frozen? ⟨Y,1,none⟩=false:=hY4.free 1
 have g2:W4.frozen? ⟨Y,2,none⟩=false:=hY4.free 2
 have g3:W4.frozen? ⟨Y,3,none⟩=false:=hY4.free 3
 have g4:W4.frozen? ⟨Y,4,none⟩=false:=hY4.free 4
 have g5:W4.frozen? ⟨Y,5,none⟩=false:=hY4.free 5
 obtain ⟨va,hva⟩:∃ v,K.va=v:=⟨_,rfl⟩
 have hform:(∃ a n c,ve=.slice a n c)∧∃ a n c,va=.slice a n c:=by
  refine ⟨?_,?_⟩
  · rcases hm.evs.2 with ⟨h1,_⟩ | ⟨g,cap,cur,h1,_⟩
    · exact ⟨_,_,_,h1⟩
    · exact ⟨_,_,_,h1⟩
  · obtain ⟨a,c,h1,-⟩:=hk.rows
    exact ⟨_,_,_,hva.symm.trans h1⟩
 have hout:=fun w' (hkp:∀ b o u,b ≠ K.M→b ≠ Y→w3.cell? ⟨b,o,none⟩=some u→w'.cell? ⟨b,o,none⟩=some u)=>hm.out hk hab (w':=w') hr0 hy3.base hve hkp st wr
 rw [hva] at m8 hout
 obtain ⟨⟨a1,n1,c1,rfl⟩,⟨a2,n2,c2,rfl⟩⟩:=hform
 have HOUT:=Lib.hid hout
 have HB3:=Lib.hid (And.intro hb3 (And.intro hw3 hm.mach.lt))
 have HMM:=Lib.hid hY4
 have HW4:=Lib.hid hW4
 have HX:=Lib.hid hX
 clear hout hb3 hw3 hM4 hY4 hx4 hW4 hX hm he hve hy3 hva
 rw [HW4.out,HX.out]
 go_region
 all_goals
  go_wp2_with fail
  have hb:=((((((((HMM.out.other (a:=⟨K.M,3,none⟩) (fun e=>hMY e.symm) (.int .i64 st)).other (a:=⟨K.M,4,none⟩) (fun e=>hMY e.symm) (.int .i64 wr)).set 0 (.int .i64 st)).set 1 (.int .i64 wr)).set 2 (.int .i64 s'.steps)).set 3 (.slice a1 n1 c1)).set 4 (.slice (some ⟨K.vb,0,none⟩) K.nv K.nv)).set 5 (.slice a2 n2 c2))
  have ho1:Only K.M W4 ((W4.setCell ⟨K.M,3,none⟩ (.int .i64 st)).setCell ⟨K.M,4,none⟩ (.int .i64 wr)):=((Only.refl K.M W4).setCell (p:=⟨K.M,3,none⟩) rfl _).setCell (p:=⟨K.M,4,none⟩) rfl _
  obtain ⟨W5,hW5⟩:∃ W5,(W4.setCell ⟨K.M,3,none⟩ (.int .i64 st)).setCell ⟨K.M,4,none⟩ (.int .i64 wr)=W5:=⟨_,rfl⟩
  rw [hW5] at hb ho1 ⊢
  have ho2:Only Y W5 ((((((W5.setCell ⟨Y,0,none⟩ (.int .i64 st)).setCell ⟨Y,1,none⟩ (.int .i64 wr)).setCell ⟨Y,2,none⟩ (.int .i64 s'.steps)).setCell ⟨Y,3,none⟩ (.slice a1 n1 c1)).setCell ⟨Y,4,none⟩ (.slice (some ⟨K.vb,0,none⟩) K.nv K.nv)).setCell ⟨Y,5,none⟩ (.slice a2 n2 c2)):=((((((Only.refl Y W5).setCell (p:=⟨Y,0,none⟩) rfl _).setCell (p:=⟨Y,1,none⟩) rfl _).setCell (p:=⟨Y,2,none⟩) rfl _).setCell (p:=⟨Y,3,none⟩) rfl _).setCell (p:=⟨Y,4,none⟩) rfl _).setCell (p:=⟨Y,5,none⟩) rfl _
  obtain ⟨W6,hW6⟩:∃ W6,(((((W5.setCell ⟨Y,0,none⟩ (.int .i64 st)).setCell ⟨Y,1,none⟩ (.int .i64 wr)).setCell ⟨Y,2,none⟩ (.int .i64 s'.steps)).setCell ⟨Y,3,none⟩ (.slice a1 n1 c1)).setCell ⟨Y,4,none⟩ (.slice (some ⟨K.vb,0,none⟩) K.nv K.nv)).setCell ⟨Y,5,none⟩ (.slice a2 n2 c2)=W6:=⟨_,rfl⟩
  rw [hW6] at hb ho2 ⊢
  have hs4:w3.heap.size≤W4.heap.size:=by rw [← HW4.out,World.size_alloc];omega
  have hbw:Below K.H0 w W6:=((HB3.out.1.trans (by rw [← HW4.out];exact (Below.refl K.H0 w3).alloc (by have:=HB3.out.2.1;have:=hk.b0;omega) _)).trans (ho1.old hk.m0 (by have:=HB3.out.2.1;have:=hk.b0;omega))).trans (ho2.old HYB.out (by have:=HB3.out.2.1;have:=hk.b0;have:=ho1.size;omega))
  have hkp:∀ b o u,b ≠ K.M→b ≠ Y→w3.cell? ⟨b,o,none⟩=some u→W6.cell? ⟨b,o,none⟩=some u:=fun b o u h1 h2 h3=>by
   have h4:W4.cell? ⟨b,o,none⟩=some u:=by rw [← HW4.out];exact (((Below.refl w3.heap.size w3).alloc (Nat.le_refl _) _).cell (p:=⟨b,o,none⟩) (World.block_lt_of_cell? w3 _ h3)).trans h3
   exact only_cell ho2 (only_cell ho1 h4 h1) h2
  refine bodyPost_ret (results_cell_row rfl _ _ Y _ #[.int .i64 st,.int .i64 wr,.int .i64 s'.steps,.slice a1 n1 c1,.slice (some ⟨K.vb,0,none⟩) K.nv K.nv,.slice a2 n2 c2] _ _ rfl (show Blk W6.drew Y _ _ from hb) rfl rfl (by kernel_rfl)) rfl ?_
  refine ⟨_,rfl,hbw.drew,?_⟩
  exact HOUT.out W6.drew hkp
def goodU (K:Me) (u:Us):Prop:=if u.2 then K.E.pl u.1 < K.ab.length else K.E.pl u.1 < K.nv
mutual
theorem okN_of (K:Me) (w:World):∀ (x:Nd) (vs:List Value),NdIn w x vs→(∀ y ∈ allN x,wellN y=true)→(∀ u ∈ usesN x,goodU K u)→okN K x
 | .mk ty k n nm xs cs ts es,vs,hin,hall,hus=>by
   unfold NdIn at hin
   obtain ⟨hfit,-,-,-,vx,vc,vt,ve,-,hx,hc,ht,he⟩:=hin
   cases ty with
   | E =>
     simp only [fits] at hfit
     obtain ⟨rfl,rfl,rfl⟩:=hfit
     have e:allN (.mk .E k n nm xs [] [] [])=.mk .E k n nm xs [] [] [] :: allL xs:=by unfold allN;rfl
     have eu:usesN (.mk .E k n nm xs [] [] [])=headU nm (k == 2) (k == 4) ++ usesL xs:=by unfold usesN;rfl
     rw [e] at hall
     rw [eu] at hus
     have h1:wellE k n nm xs.length=true:=hall _ (List.mem_cons_self ..)
     unfold wellE kindE ownE argsE at h1
     simp only [Bool.and_eq_true,Bool.or_eq_true,decide_eq_true_eq,beq_iff_eq] at h1
     obtain ⟨⟨hk,-⟩,hlen,hn⟩:=h1
     unfold okN
     refine ⟨⟨hk.1,hk.2,fun h=>by omega,fun h=>?_,fun h=>?_,fun h=>?_,fun h=>?_⟩,?_,by unfold okL;trivial,by unfold okL;trivial,by unfold okL;trivial⟩
     · rw [if_pos h] at hlen;omega
     · rw [if_neg (by omega),if_pos ⟨h,hk.2⟩] at hlen;omega
     · have:=hus (nm,false) (List.mem_append_left _ (by subst h;simp [headU]))
       simpa [goodU] using this
     · have:=hus (nm,true) (List.mem_append_left _ (by subst h;simp [headU]))
       simpa [goodU] using this
     · exact sl_rowR hx (fun b o hr=>okL_of K w .E xs b o hr (fun y hy=>hall y (List.mem_cons_of_mem _ hy)) (fun u hu=>hus u (List.mem_append_right _ hu))) (fun h=>by subst h;unfold okL;trivial)
   | C =>
     simp only [fits] at hfit
     obtain ⟨-,rfl,rfl⟩:=hfit
     have e:allN (.mk .C k n nm xs cs [] [])=.mk .C k n nm xs cs [] [] :: (allL xs ++ allL cs):=by unfold allN;rfl
     have eu:usesN (.mk .C k n nm xs cs [] [])=usesL xs ++ usesL cs:=by unfold usesN;rfl
     rw [e] at hall
     rw [eu] at hus
     have h1:wellC k n xs.length cs.length=true:=hall _ (List.mem_cons_self ..)
     unfold wellC kindC ownC exprsC partsC at h1
     simp only [Bool.and_eq_true,decide_eq_true_eq,beq_iff_eq] at h1
     obtain ⟨hk,-,hxl,hcl⟩:=h1
     unfold okN
     refine ⟨⟨hk.1,hk.2,fun h=>?_,fun h=>?_,fun h=>?_⟩,?_,?_,by unfold okL;trivial,by unfold okL;trivial⟩
     · rw [if_pos h] at hxl;omega
     · rw [if_pos h] at hcl;omega
     · rw [if_neg (by omega),if_pos (by omega)] at hcl;omega
     · exact sl_rowR hx (fun b o hr=>okL_of K w .E xs b o hr (fun y hy=>hall y (List.mem_cons_of_mem _ (List.mem_append_left _ hy))) (fun u hu=>hus u (List.mem_append_left _ hu))) (fun h=>by subst h;unfold okL;trivial)
     · exact sl_rowR hc (fun b o hr=>okL_of K w .C cs b o hr (fun y hy=>hall y (List.mem_cons_of_mem _ (List.mem_append_right _ hy))) (fun u hu=>hus u (List.mem_append_right _ hu))) (fun h=>by subst h;unfold okL;trivial)
   | S =>
     have e:allN (.mk .S k n nm xs cs ts es)=.mk .S k n nm xs cs ts es :: (allL cs ++ (allL xs ++ (allL ts ++ allL es))):=by unfold allN;rfl
     have eu:usesN (.mk .S k n nm xs cs ts es)=headU nm (k == 1) (k == 2) ++ (usesL cs ++ (usesL xs ++ (usesL ts ++ usesL es))):=by unfold usesN;rfl
     rw [e] at hall
     rw [eu] at hus
     have h1:wellS k nm xs.length cs.length ts.length es.length=true:=hall _ (List.mem_cons_self ..)
     unfold wellS kindS ownS exprsS condsS at h1
     simp only [Bool.and_eq_true,Bool.or_eq_true,decide_eq_true_eq,beq_iff_eq] at h1
     obtain ⟨⟨hk,-⟩,hxl,hcl,-⟩:=h1
     unfold okN
     refine ⟨⟨hk.1,hk.2,fun h=>?_,fun h=>?_,fun h=>?_,fun h=>?_,fun h=>?_⟩,?_,?_,?_,?_⟩
     · rw [if_pos h] at hxl;omega
     · rw [if_neg (by omega),if_pos h] at hxl;omega
     · rw [if_pos h] at hcl;omega
     · have:=hus (nm,false) (List.mem_append_left _ (by subst h;simp [headU]))
       simpa [goodU] using this
     · have:=hus (nm,true) (List.mem_append_left _ (by subst h;simp [headU]))
       simpa [goodU] using this
     · exact sl_rowR hx (fun b o hr=>okL_of K w .E xs b o hr (fun y hy=>hall y (List.mem_cons_of_mem _ (List.mem_append_right _ (List.mem_append_left _ hy)))) (fun u hu=>hus u (List.mem_append_right _ (List.mem_append_right _ (List.mem_append_left _ hu))))) (fun h=>by subst h;unfold okL;trivial)
     · exact sl_rowR hc (fun b o hr=>okL_of K w .C cs b o hr (fun y hy=>hall y (List.mem_cons_of_mem _ (List.mem_append_left _ hy))) (fun u hu=>hus u (List.mem_append_right _ (List.mem_append_left _ hu)))) (fun h=>by subst h;unfold okL;trivial)
     · exact sl_rowR ht (fun b o hr=>okL_of K w .S ts b o hr (fun y hy=>hall y (List.mem_cons_of_mem _ (List.mem_append_right _ (List.mem_append_right _ (List.mem_append_left _ hy))))) (fun u hu=>hus u (List.mem_append_right _ (List.mem_append_right _ (List.mem_append_right _ (List.mem_append_left _ hu)))))) (fun h=>by subst h;unfold okL;trivial)
     · exact sl_rowR he (fun b o hr=>okL_of K w .S es b o hr (fun y hy=>hall y (List.mem_cons_of_mem _ (List.mem_append_right _ (List.mem_append_right _ (List.mem_append_right _ hy))))) (fun u hu=>hus u (List.mem_append_right _ (List.mem_append_right _ (List.mem_append_right _ (List.mem_append_right _ hu)))))) (fun h=>by subst h;unfold okL;trivial)
   | D =>
     simp only [fits] at hfit
     obtain ⟨-,rfl,rfl,rfl,rfl⟩:=hfit
     unfold okN
     refine ⟨trivial,?_,?_,?_,?_⟩ <;> (unfold okL;trivial)
theorem okL_of (K:Me) (w:World):∀ (ty:Ty) (l:List Nd) (b o:Nat),RowIn w ty l b o→(∀ y ∈ allL l,wellN y=true)→(∀ u ∈ usesL l,goodU K u)→okL K ty l
 | ty,[],_,_,_,_,_=>by unfold okL;trivial
 | ty,x :: r,b,o,hrow,hall,hus=>by
   unfold RowIn at hrow
   obtain ⟨⟨hx,vs,-,hin⟩,hr⟩:=hrow
   have e:allL (x :: r)=allN x ++ allL r:=by rw [allL]
   have eu:usesL (x :: r)=usesN x ++ usesL r:=by rw [usesL]
   rw [e] at hall
   rw [eu] at hus
   unfold okL
   exact ⟨hx,okN_of K w x vs hin (fun y hy=>hall y (List.mem_append_left _ hy)) (fun u hu=>hus u (List.mem_append_left _ hu)),okL_of K w ty r b _ hr (fun y hy=>hall y (List.mem_append_right _ hy)) (fun u hu=>hus u (List.mem_append_right _ hu))⟩
end
theorem well_ok {K:Me} {w:World} {ds ss:List Nd} {v:Value} (hs:SlIn w .S ss v) (hz:(wellP ds ss).2=0) (hpl:K.E.pl=plW ds) (hnv:K.nv=(varsL ds).length) (hna:K.ab.length=(arrsL ds).length):okL K .S ss:=by
 obtain ⟨h1,h2,h3⟩:=wellP_ok hz
 have hall:=prog_all h1
 have hus:=bad_all _ h3
 refine sl_rowR hs (fun b o hr=>okL_of K w .S ss b o hr (fun y hy=>hall y (List.mem_append_right _ hy)) (fun u hu=>?_)) (fun h=>by subst h;unfold okL;trivial)
 have hu1:=hus u hu
 unfold goodU
 rw [hpl,hnv,hna]
 split
 · rename_i hq
   rw [hq] at hu1
   exact pl_arr h2 hu1
 · rename_i hq
   have:u.2=false:=by simpa using hq
   rw [this] at hu1
   exact pl_var h2 hu1
end Go.Proofs.YtmohmggnjldddaaGreatDoor
