/-
  StepSame's walk: a program's run as a tree and as a graph are one.
-/
import Derived.Test.YtmohmggnjldddaaGreatDoorQLwW
import Derived.Test.YtmohmggnjldddaaGreatDoorQLwG
import Derived.Test.YtmohmggnjldddaaGreatDoorQAbb
namespace Go.Proofs.YtmohmggnjldddaaGreatDoor
set_option maxHeartbeats 8000000
set_option maxRecDepth 100000
open Go Go.RowKit
mutual
def nmN:Nd→Prop
 | .mk _ _ n _ xs cs ts es=>fitsI n∧nmL xs∧nmL cs∧nmL ts∧nmL es
def nmL:List Nd→Prop
 | []=>True
 | x :: r=>nmN x∧nmL r
end
theorem sl_row {n:Nat} {row:Nat→Nat→Prop} {v:Value} (h:SlOf n row v):n=0∨∃ b o,row b o:=by
 obtain ⟨_,_,_,_,_,h⟩:=h
 rcases h with h | ⟨b,o,-,h⟩
 · exact .inl h
 · exact .inr ⟨b,o,h⟩
mutual
theorem nmN_in {w:World}:∀ (x:Nd) (vs:List Value),NdIn w x vs→nmN x
 | .mk ty k n s xs cs ts es,vs,h=>by
   unfold NdIn at h
   obtain ⟨-,-,hn,-,vx,vc,vt,ve,-,h1,h2,h3,h4⟩:=h
   have e0:∀ {l:List Nd},l.length=0→nmL l:=fun h=>by rw [List.length_eq_zero_iff.1 h];unfold nmL;trivial
   unfold nmN
   refine ⟨fits_wf hn,?_,?_,?_,?_⟩
   · rcases sl_row h1 with h | ⟨b,o,h⟩
     · exact e0 h
     · exact nmL_row .E xs b o h
   · rcases sl_row h2 with h | ⟨b,o,h⟩
     · exact e0 h
     · exact nmL_row .C cs b o h
   · rcases sl_row h3 with h | ⟨b,o,h⟩
     · exact e0 h
     · exact nmL_row .S ts b o h
   · rcases sl_row h4 with h | ⟨b,o,h⟩
     · exact e0 h
     · exact nmL_row .S es b o h
theorem nmL_row {w:World}:∀ (ty:Ty) (l:List Nd) (b o:Nat),RowIn w ty l b o→nmL l
 | _,[],_,_,_=>by unfold nmL;trivial
 | ty,x :: r,b,o,h=>by
   unfold RowIn at h
   obtain ⟨⟨-,vs,-,h1⟩,h2⟩:=h
   unfold nmL
   exact ⟨nmN_in x vs h1,nmL_row ty r b _ h2⟩
end
theorem nmL_sl {w:World} {ty:Ty} {l:List Nd} {v:Value} (h:SlIn w ty l v):nmL l:=by
 rcases sl_row h with h | ⟨b,o,h⟩
 · rw [List.length_eq_zero_iff.1 h];unfold nmL;trivial
 · exact nmL_row ty l b o h
def Ft (s:Lw):Prop:=∀ e ∈ s.eds,fitsI e.an∧fitsI e.bn
theorem Ft.same {s s':Lw} (h:Ft s) (e:s'.eds=s.eds):Ft s':=by unfold Ft;rw [e];exact h
theorem Ft.add {s:Lw} (h:Ft s) {e:Ed} (he:fitsI e.an∧fitsI e.bn):Ft (s.add e):=by
 intro x hx
 rcases List.mem_append.1 hx with h1 | h1
 · exact h x h1
 · rw [List.mem_singleton.1 h1];exact he
theorem ft0:fitsI 0:=by decide
theorem Ft.edge {s:Lw} (h:Ft s) (f t k:Int):Ft (s.add (edgeE f t k)):=h.add ⟨ft0,ft0⟩
theorem conK_cons (k n:Int) (x:Nd) (r:List Nd):conK k n (x :: r)=if k=1 then some n else if k=5∧kindN x=1 then some (-(numN x)) else none:=rfl
theorem conK_nil (k n:Int):conK k n []=if k=1 then some n else none:=rfl
theorem ft_con {k n:Int} {xs:List Nd} {m:Int} (hn:fitsI n) (hx:nmL xs) (hk:fmL .E xs) (h:conK k n xs=some m):fitsI m:=by
 by_cases k1:k=1
 · have e:conK k n xs=some n:=by cases xs with
    | nil=>rw [conK_nil,if_pos k1]
    | cons x r=>rw [conK_cons,if_pos k1]
   rw [e] at h
   cases h
   exact hn
 cases xs with
 | nil =>
   rw [conK_nil,if_neg k1] at h
   cases h
 | cons x r =>
   rw [conK_cons,if_neg k1] at h
   by_cases h5:k=5∧kindN x=1
   · rw [if_pos h5] at h
     cases h
     obtain ⟨ty,k1,n1,nm,xs1,cs,ts,es⟩:=x
     unfold fmL at hk
     obtain ⟨hty,hf,-⟩:=hk
     simp only [Nd.ty] at hty
     subst hty
     unfold fmN fmK at hf
     have h0:=hf.1.2.2.1 h5.2
     unfold nmL nmN at hx
     have h1:=hx.1.1
     show fitsI (-n1)
     unfold fitsI at h1 ⊢
     omega
   · rw [if_neg h5] at h
     cases h
theorem ft_op0 {l:List (Int × Int)} (h:∀ o ∈ l,fitsI o.2):fitsI (op0 l).2:=by
 unfold op0
 cases l with
 | nil=>exact ft0
 | cons x r=>exact h x (by simp)
theorem ft_op1 {l:List (Int × Int)} (h:∀ o ∈ l,fitsI o.2):fitsI (op1 l).2:=by
 unfold op1
 rcases l with _ | ⟨x,_ | ⟨y,r⟩⟩
 · exact ft0
 · exact ft0
 · exact h y (by simp)
mutual
theorem opN_ft (E:Lv):∀ (x:Nd) (q d:Int) (s:Lw),fmN x→x.ty=.E→nmN x→Ft s→Ft (opN E x q d s).2.2∧fitsI (opN E x q d s).1.2
 | .mk ty k n nm xs cs ts es,q,d,s,hf,hty,hn,hs=>by
   unfold fmN at hf
   unfold nmN at hn
   rw [opN]
   cases hk:simK E k nm (conK k n xs) with
   | some o =>
     refine ⟨hs,?_⟩
     show fitsI o.2
     unfold simK at hk
     cases hc:conK k n xs with
     | some m =>
       rw [hc] at hk
       cases hk
       exact ft_con hn.1 hn.2.1 hf.2.1 hc
     | none =>
       rw [hc] at hk
       simp only at hk
       split at hk
       · cases hk;exact ft0
       · cases hk
   | none =>
     obtain ⟨h1,h2⟩:=opsL_ft E xs q d (s.temp d).fresh hf.2.1 hn.2.1 (hs.same rfl)
     exact ⟨h1.add ⟨ft_op0 h2,ft_op1 h2⟩,ft0⟩
theorem opsL_ft (E:Lv):∀ (l:List Nd) (q d:Int) (s:Lw),fmL .E l→nmL l→Ft s→Ft (opsL E l q d s).2.2∧∀ o ∈ (opsL E l q d s).1,fitsI o.2
 | [],q,d,s,_,_,hs=>by rw [opsL];exact ⟨hs,fun o ho=>by cases ho⟩
 | x :: r,q,d,s,hf,hn,hs=>by
   unfold fmL at hf
   unfold nmL at hn
   rw [opsL]
   obtain ⟨h1,h2⟩:=opN_ft E x q d s hf.2.1 hf.1 hn.1 hs
   obtain ⟨h3,h4⟩:=opsL_ft E r (opN E x q d s).2.1 (nextD E (opN E x q d s).1 d) (opN E x q d s).2.2 hf.2.2 hn.2 h1
   refine ⟨h3,fun o ho=>?_⟩
   rcases List.mem_cons.1 ho with rfl | ho
   · exact h2
   · exact h4 o ho
end
theorem args_fm {x:Nd} (h:fmN x):fmL .E (argsN x):=by
 obtain ⟨ty,k,n,nm,xs,cs,ts,es⟩:=x
 unfold fmN at h
 exact h.2.1
theorem args_nm {x:Nd} (h:nmN x):nmL (argsN x):=by
 obtain ⟨ty,k,n,nm,xs,cs,ts,es⟩:=x
 unfold nmN at h
 exact h.2.1
theorem into_ft (E:Lv) {x:Nd} (hf:fmN x) (hn:nmN x) (dst f t d:Int) {s:Lw} (hs:Ft s):Ft (intoN E x dst f t d s):=by
 obtain ⟨h1,h2⟩:=opsL_ft E (argsN x) f d s (args_fm hf) (args_nm hn) hs
 exact h1.add ⟨ft_op0 h2,ft_op1 h2⟩
theorem cmp_ft (E:Lv) (op:Int) {xs:List Nd} (hf:fmL .E xs) (hn:nmL xs) (f y n:Int) {s:Lw} (hs:Ft s):Ft (cmpE E op xs f y n s):=by
 obtain ⟨h1,h2⟩:=opsL_ft E xs f 0 s hf hn hs
 unfold cmpE
 exact (h1.add ⟨ft_op0 h2,ft_op1 h2⟩).add ⟨ft_op0 h2,ft_op1 h2⟩
def CFt (h:Int→Int→Int→Lw→Lw):Prop:=∀ f y n s,Ft s→Ft (h f y n s)
theorem cdK_ft (E:Lv) (k op:Int) {xs:List Nd} (hf:fmL .E xs) (hn:nmL xs) {hs:List (Int→Int→Int→Lw→Lw)} (h0:CFt (cnR hs 0)) (h1:CFt (cnR hs 1)):CFt (cdK E k op xs hs):=by
 intro f y n s h
 unfold cdK
 split
 · exact h.edge _ _ _
 split
 · exact h.edge _ _ _
 split
 · exact cmp_ft E op hf hn f y n h
 split
 · exact h0 _ _ _ _ h
 split
 · exact h1 _ _ _ _ (h0 _ _ _ _ (h.same rfl))
 · exact h1 _ _ _ _ (h0 _ _ _ _ (h.same rfl))
mutual
theorem cdN_ft (E:Lv):∀ (x:Nd),fmN x→nmN x→CFt (cdN E x)
 | .mk ty k m nm xs cs ts es,hf,hn=>by
   unfold fmN at hf
   unfold nmN at hn
   intro f y n s h
   rw [cdN]
   exact cdK_ft E k m hf.2.1 hn.2.1 (cdL_ft E cs hf.2.2.1 hn.2.2.1 0) (cdL_ft E cs hf.2.2.1 hn.2.2.1 1) f y n s h
theorem cdL_ft (E:Lv):∀ (l:List Nd),fmL .C l→nmL l→∀ i,CFt (cnR (cdL E l) i)
 | [],_,_,i=>by intro f y n s h;unfold cdL cnR;simp only [List.getD_nil];exact h
 | x :: r,hf,hn,0=>by
   unfold fmL at hf
   unfold nmL at hn
   have:=cdN_ft E x hf.2.1 hn.1
   unfold cdL cnR
   exact this
 | x :: r,hf,hn,i+1=>by
   unfold fmL at hf
   unfold nmL at hn
   have:=cdL_ft E r hf.2.2 hn.2 i
   unfold cdL
   unfold cnR at this ⊢
   simpa using this
end
theorem asg_ft (E:Lv) (nm:ByteArray) {x:Nd} (hf:fmN x) (hty:x.ty=.E) (hn:nmN x) (f t:Int) {s:Lw} (hs:Ft s):Ft (asgP E nm x f t s):=by
 unfold asgP
 split
 · rename_i o ho
   have h1:=(opN_ft E x 0 0 s hf hty hn hs).2
   rw [opN_some ho] at h1
   exact hs.add ⟨h1,ft0⟩
 · exact into_ft E hf hn _ _ _ _ hs
def BFt (h:Int→Int→Lw→Lw):Prop:=∀ f t s,Ft s→Ft (h f t s)
theorem beg_ft (e:Bool) {s:Lw} (h:Ft s):Ft (begS e s):=by cases e<;>exact h
theorem lwK_ft (E:Lv) (k:Int) (nm:ByteArray) {xs:List Nd} (hf:fmL .E xs) (hl:k=1→xs.length=1) (hn:nmL xs) {hs:List (Int→Int→Int→Lw→Lw)} (h0:CFt (cnR hs 0)) {te ee:Bool} {tb eb:Int→Int→Lw→Lw} (ht:BFt tb) (he:BFt eb):BFt (lwK E k nm xs hs te ee tb eb):=by
 intro f t s h
 unfold lwK
 split
 · rename_i h1
   have h2:=hl h1
   obtain ⟨x,rfl⟩:=List.length_eq_one_iff.1 h2
   unfold fmL at hf
   unfold nmL at hn
   exact asg_ft E nm hf.2.1 hf.1 hn.1 _ _ h
 split
 · obtain ⟨g1,g2⟩:=opsL_ft E xs f 0 s hf hn h
   unfold stoP
   exact g1.add ⟨ft_op0 g2,ft_op1 g2⟩
 split
 · exact he _ _ _ (ht _ _ _ (h0 _ _ _ _ (beg_ft _ (beg_ft _ h))))
 split
 · exact ht _ _ _ (h0 _ _ _ _ (beg_ft _ h))
 split
 · have h1:Ft s.fresh.fresh:=h.same rfl
   exact ((h0 _ _ _ _ h1).edge _ _ _).edge _ _ _
 split
 · exact h0 _ _ _ _ h
 · exact h.edge _ _ _
set_option linter.unusedVariables false in
theorem blk_ft {n:Nat} {b:Int→Int→Int→Lw→Lw} (h:∀ (f p t:Int) (s:Lw),Ft s→Ft (b f p t s)):BFt (blkF n b):=fun f t s hs=>h _ _ _ _ (hs.same rfl)
mutual
theorem lwN_ft (E:Lv):∀ (x:Nd),fmN x→x.ty=.S→nmN x→BFt (lwN E x)
 | .mk ty k m nm xs cs ts es,hf,hty,hn=>by
   simp only [Nd.ty] at hty
   subst hty
   unfold fmN at hf
   unfold nmN at hn
   intro f t s h
   rw [lwN]
   exact lwK_ft E k nm hf.2.1 hf.1.2.2.1 hn.2.1 (cdL_ft E cs hf.2.2.1 hn.2.2.1 0) (blk_ft (lwL_ft E ts hf.2.2.2.1 hn.2.2.2.1)) (blk_ft (lwL_ft E es hf.2.2.2.2 hn.2.2.2.2)) f t s h
theorem lwL_ft (E:Lv):∀ (l:List Nd),fmL .S l→nmL l→∀ f p t s,Ft s→Ft (lwL E l f p t s)
 | [],_,_,f,p,t,s,h=>by rw [lwL];exact h
 | x :: r,hf,hn,f,p,t,s,h=>by
   unfold fmL at hf
   unfold nmL at hn
   rw [lwL]
   exact lwL_ft E r hf.2.2 hn.2 _ _ _ _ (lwN_ft E x hf.2.1 hf.1 hn.1 _ _ _ h)
end
theorem low_ft (E:Lv) {ss:List Nd} (hf:fmL .S ss) (hn:nmL ss):∀ e ∈ (lowP E ss).eds,fitsI e.an∧fitsI e.bn :=
 blk_ft (lwL_ft E ss hf hn) _ _ _ (fun e he=>by cases ss<;>cases he)
open Go Go.RowKit Go.Maps
theorem tab_below {w w':World} (h:TabK w) (hb:Below w.heap.size w w'):TabK w':=fun i hi=>keeps_below hb _ _ _ (h i hi)
def kG10:Gf:=⟨[⟨#[120]⟩],0,[],2,1,[⟨0,1,2,0,-1,0,-1,4,-1,0⟩]⟩
theorem kn10F:srunF kG10 [] 5=0:=by decide +kernel
theorem kn10O:srunO kG10 [] 5=(2,0,⟨[4],[],[],1,[]⟩):=by kernel_rfl
theorem kn10P:(srunG kG10 [] 5).2.2.1=1:=by decide +kernel
theorem stp_then {w w1 w2:World} (h1:Below w.heap.size w w1) (h2:Below w1.heap.size w1 w2):Below w.heap.size w w2:=h1.trans (h2.mono h1.size)
theorem stp_alloc (w:World) (o:Obj):Below w.heap.size w (w.alloc o):=(Below.refl _ w).alloc (Nat.le_refl _) _
theorem known10_any (w:World) (htab:TabF w):Calls Tryz.prog 9 #[] w (fun e w'=>e=.returned (.bool true)∧Below w.heap.size w w'):=by
 obtain ⟨X,hX⟩:∃ X,w.heap.size=X:=⟨_,rfl⟩
 obtain ⟨W1,hW1⟩:∃ W,w.alloc (.cells #[.string ⟨#[120]⟩] 9)=W:=⟨_,rfl⟩
 obtain ⟨W2,hW2⟩:∃ W,W1.alloc (.cells #[.int .i64 0,.int .i64 1,.int .i64 2,.int .i64 0,.int .i64 (-1),.int .i64 0,.int .i64 (-1),.int .i64 4,.int .i64 (-1),.int .i64 0] 40)=W:=⟨_,rfl⟩
 have b1:Blk W1 X #[.string ⟨#[120]⟩] 9:=by rw [← hW1,← hX];exact Blk.new w _ _
 have hb1:Below w.heap.size w W1:=by rw [← hW1];exact (Below.refl _ w).alloc (Nat.le_refl _) _
 obtain ⟨Y,hY⟩:∃ Y,W1.heap.size=Y:=⟨_,rfl⟩
 have b2:Blk W2 Y #[.int .i64 0,.int .i64 1,.int .i64 2,.int .i64 0,.int .i64 (-1),.int .i64 0,.int .i64 (-1),.int .i64 4,.int .i64 (-1),.int .i64 0] 40:=by rw [← hW2,← hY];exact Blk.new W1 _ _
 have b1':Blk W2 X #[.string ⟨#[120]⟩] 9:=by rw [← hW2];exact b1.alloc _
 have hb2:Below w.heap.size w W2:=by rw [← hW2];exact hb1.alloc hb1.size _
 obtain ⟨Z,hZ⟩:∃ Y,W2.heap.size=Y:=⟨_,rfl⟩
 obtain ⟨W3,hW3⟩:∃ W,W2.alloc (.cells #[.slice (some ⟨X,0,none⟩) 1 1,.int .i64 0,.slice none 0 0,.int .i64 2,.int .i64 1,.slice (some ⟨Y,0,none⟩) 1 1] 30)=W:=⟨_,rfl⟩
 have b3:Blk W3 Z #[.slice (some ⟨X,0,none⟩) 1 1,.int .i64 0,.slice none 0 0,.int .i64 2,.int .i64 1,.slice (some ⟨Y,0,none⟩) 1 1] 30:=by rw [← hW3,← hZ];exact Blk.new W2 _ _
 have b2':Blk W3 Y #[.int .i64 0,.int .i64 1,.int .i64 2,.int .i64 0,.int .i64 (-1),.int .i64 0,.int .i64 (-1),.int .i64 4,.int .i64 (-1),.int .i64 0] 40:=by rw [← hW3];exact b2.alloc _
 have b1'':Blk W3 X #[.string ⟨#[120]⟩] 9:=by rw [← hW3];exact b1'.alloc _
 have hb3:Below w.heap.size w W3:=by rw [← hW3];exact hb2.alloc hb2.size _
 have hXY:X+1=Y:=by rw [← hY,← hW1,World.size_alloc,hX]
 have hYZ:Y+1=Z:=by rw [← hZ,← hW2,World.size_alloc,hY]
 have hgr:GrIn W3 kG10 (.slice (some ⟨X,0,none⟩) 1 1) (.slice none 0 0) (.slice (some ⟨Y,0,none⟩) 1 1):=by
  refine ⟨⟨_,1,rfl,Nat.le_refl _,.inr ⟨X,0,rfl,fun i hi=>?_⟩⟩,⟨none,0,rfl,Nat.le_refl _,Nat.zero_le _,.inl rfl⟩,⟨_,1,rfl,Nat.le_refl _,by decide,.inr ⟨Y,0,rfl,fun i hi j u hu=>?_⟩⟩,by decide⟩
  · obtain rfl:i=0:=by have:i<1:=hi;omega
    rw [b1''.cell]
    rfl
  · obtain rfl:i=0:=by have:i<1:=hi;omega
    rw [b2'.cell,show 0+(0 * 10+j)=j by omega,← hu]
    exact (Array.getElem?_toList ..).symm
 have HS:=zh (show Calls Tryz.prog 12 #[.agg #[.slice (some ⟨X,0,none⟩) 1 1,.int .i64 0,.slice none 0 0,.int .i64 2,.int .i64 1,.slice (some ⟨Y,0,none⟩) 1 1],.slice none 0 0,.int .i64 5] W3 (fun e w'=>∃ u,e=.returned (.tuple #[u,.int .i64 1,.int .i64 0])∧Below W3.heap.size W3 w'∧OutIn w' W3.heap.size (2,0,⟨[4],[],[],1,[]⟩) u) from by
  refine (stepRun_any kG10 (some ⟨X,0,none⟩) none (some ⟨Y,0,none⟩) 1 0 1 [] (.slice none 0 0) 5 W3 hgr (by decide) (htab.next hb3) (by decide) ⟨none,0,rfl,Nat.le_refl _,Nat.zero_le _,.inl rfl⟩ (fun x hx=>by cases hx)).mono ?_
  rintro e w' ⟨u,q,rfl,h1,h2,-⟩
  rw [kn10F] at h2 ⊢
  obtain ⟨h3,rfl⟩:=h2 rfl
  rw [kn10O] at h3
  rw [kn10P]
  exact ⟨u,rfl,h1,h3⟩)
 have z0:W3.cell? ⟨Z,0,none⟩=some (.slice (some ⟨X,0,none⟩) 1 1):=b3.cell 0
 have z1:W3.cell? ⟨Z,1,none⟩=some (.int .i64 0):=b3.cell 1
 have z2:W3.cell? ⟨Z,2,none⟩=some (.slice none 0 0):=b3.cell 2
 have z3:W3.cell? ⟨Z,3,none⟩=some (.int .i64 2):=b3.cell 3
 have z4:W3.cell? ⟨Z,4,none⟩=some (.int .i64 1):=b3.cell 4
 have z5:W3.cell? ⟨Z,5,none⟩=some (.slice (some ⟨Y,0,none⟩) 1 1):=b3.cell 5
 have HX:=zh (za hX (za hW1 (za hXY (za hW2 (za hYZ hW3)))))
 have HB3:=zh hb3
 clear hX hW1 hXY hW2 hYZ hW3 hb3 hgr b1 b1' b1'' b2 b2' b3 hb1 hb2 hY hZ htab
 go_enter Tryz.func9,Tryz.ntmps9
 go_upto_region 2 with fail
 rw [HX.out.1,HX.out.2.1,HX.out.2.2.1,HX.out.2.2.2.1,HX.out.2.2.2.2.1,HX.out.2.2.2.2.2]
 go_upto_region 3 with (first | (go_at_call 12;(with_reducible refine HS.out.mono ?_);rintro e w4 ⟨u,rfl,hb4,ho⟩;obtain ⟨ve,vv,va,rfl,hev,hiv,hav,-⟩:=ho;obtain ⟨g,c,rfl,-,-,hg,hcell⟩:=hiv;obtain ⟨e1,e2,e3,rfl⟩:∃ a n c,ve=.slice a n c:=(by obtain ⟨a,c,h⟩:=hev.form;exact ⟨a,_,c,h⟩);obtain ⟨f1,f2,f3,rfl⟩:∃ a n c,va=.slice a n c:=(by obtain ⟨a,c,h⟩:=hav.form;exact ⟨a,_,c,h⟩);have H4:=zh (za hb4 (za hg (hcell 0 (by decide))));clear hb4 hg hcell hev hav) | fail)
 clear z0 z1 z2 z3 z4 z5
 obtain ⟨V,hV⟩:∃ Y,w4.heap.size=Y:=⟨_,rfl⟩
 obtain ⟨W5,hW5⟩:∃ W,w4.alloc (.cells #[.int .i64 2,.int .i64 0,.int .i64 1,.slice e1 e2 e3,.slice (some ⟨g,0,none⟩) 1 c,.slice f1 f2 f3] 47)=W:=⟨_,rfl⟩
 rw [hW5,hV]
 have hv5:Blk W5 V #[.int .i64 2,.int .i64 0,.int .i64 1,.slice e1 e2 e3,.slice (some ⟨g,0,none⟩) 1 c,.slice f1 f2 f3] 47:=by rw [← hW5,← hV];exact Blk.new w4 _ _
 have hb45:Below w4.heap.size w4 W5:=by rw [← hW5];exact stp_alloc _ _
 have v0:W5.cell? ⟨V,0,none⟩=some (.int .i64 2):=hv5.cell 0
 have v2:W5.cell? ⟨V,2,none⟩=some (.int .i64 1):=hv5.cell 2
 have v4:W5.cell? ⟨V,4,none⟩=some (.slice (some ⟨g,0,none⟩) 1 c):=hv5.cell 4
 have g0:W5.cell? ⟨g,0,none⟩=some (.int .i64 4):=keeps_below hb45 _ _ _ H4.out.2.2
 have HB5:=zh (stp_then (stp_then HB3.out H4.out.1) hb45)
 clear hv5 hb45 hW5 hV
 go_wp2_with fail
 go_ret
 exact ⟨by first | rfl | trivial,HB5.out⟩
theorem sl_form {w:World} {ty:Ty} {l:List Nd} {v:Value} (h:SlIn w ty l v):∃ a c,v=.slice a l.length c:=by
 obtain ⟨a,c,h1,-⟩:=h
 exact ⟨a,c,h1⟩
theorem run_form {F:Int} {w:World} {lo:Nat} {o:Int × Int × Rn} {u:Value} (h1:F=0→OutIn w lo o u) (h2:F≠0→u=zeroO):OForm u:=by
 by_cases h:F=0
 · exact (h1 h).oform
 · rw [h2 h];exact zero_form
theorem low_in {w:World} {lo:Nat} {ds ss:List Nd} {av aa ae:Option Addr} {cv ca ce:Nat} (hd:DeclL ds) (hv:w.ownsRow lo 9 1 (.slice av (varsL ds).length cv) (varsL ds).length (cellsT (varsL ds))) (ha:w.ownsRow lo 104 2 (.slice aa (arrsL ds).length ca) (arrsL ds).length (cellsD (arrsL ds))) (he:w.ownsRow lo 40 10 (.slice ae (lowD ds ss).eds.length ce) (lowD ds ss).eds.length (cellsE (lowD ds ss).eds)) :
    GrIn w (gD ds ss) (.slice av (gD ds ss).vs.length cv) (.slice aa (gD ds ss).ar.length ca) (.slice ae (gD ds ss).es.length ce):=by
 refine ⟨strs_own hv,slD_own (fun x hx=>hd x (arrsL_mem hx).1) ha,EdsAt.own he,?_⟩
 obtain ⟨a,c,h1,h2,h3,-⟩:=own_len hv
 exact Nat.le_trans h2 h3
theorem cfg_well {ds ss:List Nd} (hc:cfgF ds ss=0):(wellP ds ss).2=0:=by
 unfold cfgF at hc
 split at hc
 · rename_i h;exact absurd hc h
 · rename_i h;simpa using h
theorem srun_same {ds ss:List Nd} (hd:fitL .D ds) (hs:fitL .S ss) (hc:cfgF ds ss=0) (sc:List Int) (k:Int):srunF (gD ds ss) sc k=runF ds ss sc k∧(runF ds ss sc k=0→srunO (gD ds ss) sc k=runO ds ss sc k)∧(runF ds ss sc k=0∨runF ds ss sc k=80):=by
 have hz:=cfg_well hc
 have h1:=low_chk hd hs hc
 unfold srunF runF
 rw [h1,hz]
 simp only [ne_eq,not_true_eq_false,if_false]
 refine ⟨by first | trivial | rfl,fun h=>low_runs hs hz sc ?_,?_⟩
 · split at h
   · cases h
   · omega
 · split
   · exact .inr rfl
   · exact .inl rfl
theorem same_any (ds ss:List Nd) (sc:List Int) (v0 v1 vs:Value) (k:Int) (w:World) (hd:SlIn w .D ds v0) (hs:SlIn w .S ss v1) (hi:IntsAt w w.heap.size sc vs) (hf:∀ x ∈ sc,fitsI x) (_hk:(Lit.int .i64 k).wf=true) (hK:TabK w) (hF:TabF w) :
    Calls Tryz.prog 4 #[.agg #[v0,v1],vs,.int .i64 k] w (fun e w'=>e=.returned (.bool true)∧Below w.heap.size w w'):=by
 obtain ⟨X,hX⟩:∃ X,w.heap.size=X:=⟨_,rfl⟩
 obtain ⟨p0,q0,rfl⟩:=sl_form hd
 obtain ⟨p1,q1,rfl⟩:=sl_form hs
 obtain ⟨s0,s1,rfl,hs1,hs2,hs3⟩:∃ a c,vs=.slice a sc.length c∧sc.length≤c∧c≤maxLen∧True:=by obtain ⟨a,c,h1,h2,h3,-⟩:=hi;exact ⟨a,c,h1,h2,h3,trivial⟩
 obtain ⟨W1,hW1⟩:∃ W,w.alloc (.cells #[.slice p0 ds.length q0,.slice p1 ss.length q1] 25)=W:=⟨_,rfl⟩
 have hx1:Blk W1 X #[.slice p0 ds.length q0,.slice p1 ss.length q1] 25:=by rw [← hW1,← hX];exact Blk.new w _ _
 have hb1:Below w.heap.size w W1:=by rw [← hW1];exact stp_alloc _ _
 have HKN:=zh (known10_any W1 (hF.next hb1))
 have HR:=zh (fun (W:World) (hb:Below w.heap.size w W)=>Run_any ds ss sc k (.slice p0 ds.length q0) (.slice p1 ss.length q1) (.slice s0 sc.length s1) W (hd.keep (keeps_below hb)) (hs.keep (keeps_below hb)) (hi.up hb hb.size) hf)
 have HL:=zh (fun (W:World) (hb:Below w.heap.size w W)=>Lower_any ds ss (.slice p0 ds.length q0) (.slice p1 ss.length q1) W (hd.keep (keeps_below hb)) (hs.keep (keeps_below hb)) (tab_below hK hb))
 have HFW:=zh (fun (W:World)=>few_any s0 sc.length s1 k W)
 have HTF:=zh (fun (W:World) (hb:Below w.heap.size w W)=>hF.next hb)
 have HSC:=zh (fun (W:World) (hb:Below w.heap.size w W)=>hi.up hb hb.size)
 have HFS:=zh hf
 have HDL:=zh (slD hd).1
 have hfd:=fit_list hd
 have hfs:=fit_list hs
 have hft:=fun (h:cfgF ds ss=0)=>low_ft (lvD ds) (prog_fm hfs (cfg_well h)).1 (nmL_sl hs)
 have HX:=zh hX
 have HW1:=zh hW1
 have HB1:=zh hb1
 have HBX:=zh hx1
 clear hX hW1 hx1 hb1 hd hs hi hf hK hF hs1 hs2 hs3
 by_cases hfew:fewB sc.length k=true
 · rw [hfew] at HFW
   by_cases hg:cfgF ds ss=0
   · have HG0:=zh hg
     have HFT:=zh (show ∀ e ∈ (gD ds ss).es,fitsI e.an∧fitsI e.bn from hft hg)
     have hsm:=srun_same hfd hfs hg sc k
     have HSM:=zh hsm
     rcases hsm.2.2 with h0 | h0
     · have HF0:=zh h0
       clear hsm h0 hg hft hfd hfs hfew
       go_enter Tryz.func4,Tryz.ntmps4
       go_upto_region 1 with fail
       rw [HX.out,HW1.out]
       go_upto_region 5 with (first | (go_at_call 9;(with_reducible refine HKN.out.mono ?_);rintro e w2 ⟨rfl,hb2⟩;have HB2:=zh hb2;clear hb2) | (go_at_call 10;(with_reducible refine (HFW.out _).mono ?_);rintro e w2 ⟨rfl,rfl⟩) | fail)
       have hb2w:=stp_then HB1.out HB2.out
       have hx2:=HBX.out.next HB2.out
       have x0:w2.cell? ⟨X,0,none⟩=some (.slice p0 ds.length q0):=hx2.cell 0
       have x1:w2.cell? ⟨X,1,none⟩=some (.slice p1 ss.length q1):=hx2.cell 1
       have HBW2:=zh (za hb2w hx2)
       clear hb2w hx2
       go_upto_region 6 with (first | (go_at_call 11;(with_reducible refine (HR.out _ HBW2.out.1).mono ?_);rintro e w3 ⟨u,rfl,hb3,ho3,-⟩;have hou:=ho3 HF0.out;rw [HF0.out];obtain ⟨i0,i1,i2,a3,a4,a5,n3,c3,n4,c4,n5,c5,rfl⟩:=hou.oform;have H3:=zh (za hb3 hou);clear hb3 ho3 hou) | fail)
       clear x0 x1
       obtain ⟨Y,hY⟩:∃ Y,w3.heap.size=Y:=⟨_,rfl⟩
       obtain ⟨W4,hW4⟩:∃ W,w3.alloc (.cells #[.int .i64 i0,.int .i64 i1,.int .i64 i2,.slice a3 n3 c3,.slice a4 n4 c4,.slice a5 n5 c5] 47)=W:=⟨_,rfl⟩
       rw [hW4,hY]
       have hb34:Below w3.heap.size w3 W4:=by rw [← hW4];exact stp_alloc _ _
       have hb4w:=stp_then (stp_then HBW2.out.1 H3.out.1) hb34
       have hx4:=(HBW2.out.2.next H3.out.1).next hb34
       have hy4:Blk W4 Y #[.int .i64 i0,.int .i64 i1,.int .i64 i2,.slice a3 n3 c3,.slice a4 n4 c4,.slice a5 n5 c5] 47:=by rw [← hW4,← hY];exact Blk.new w3 _ _
       have x0:W4.cell? ⟨X,0,none⟩=some (.slice p0 ds.length q0):=hx4.cell 0
       have x1:W4.cell? ⟨X,1,none⟩=some (.slice p1 ss.length q1):=hx4.cell 1
       have H4:=zh (za hb4w (za hb34 hy4))
       clear hb34 hb4w hx4 hy4 hW4 hY
       go_upto_region 7 with (first | (go_at_call 6;(with_reducible refine (HL.out _ H4.out.1).mono ?_);rintro e w5 ⟨u2,rfl,hb5,hc5,-⟩;obtain ⟨vv,va,ve,rfl,hv5,ha5,he5⟩:=hc5 HG0.out;rw [HG0.out];obtain ⟨av,cv,rfl⟩:=ownsRow_form hv5;obtain ⟨aa,ca,rfl⟩:=ownsRow_form ha5;obtain ⟨ae,ce,rfl⟩:=ownsRow_form he5;have H5:=zh (za hb5 (za hv5 (za ha5 he5)));clear hb5 hc5 hv5 ha5 he5) | fail)
       clear x0 x1
       obtain ⟨Z,hZ⟩:∃ Y,w5.heap.size=Y:=⟨_,rfl⟩
       obtain ⟨W6,hW6⟩:∃ W,w5.alloc (.cells #[.slice av (varsL ds).length cv,.int .i64 (lowD ds ss).tmp,.slice aa (arrsL ds).length ca,.int .i64 (lowD ds ss).pts,.int .i64 (lowD ds ss).ext,.slice ae (lowD ds ss).eds.length ce] 30)=W:=⟨_,rfl⟩
       rw [hW6,hZ]
       have hb56:Below w5.heap.size w5 W6:=by rw [← hW6];exact stp_alloc _ _
       have hb46:=stp_then H5.out.1 hb56
       have hb6w:=stp_then H4.out.1 hb46
       have hy6:=H4.out.2.2.next hb46
       have hz6:Blk W6 Z #[.slice av (varsL ds).length cv,.int .i64 (lowD ds ss).tmp,.slice aa (arrsL ds).length ca,.int .i64 (lowD ds ss).pts,.int .i64 (lowD ds ss).ext,.slice ae (lowD ds ss).eds.length ce] 30:=by rw [← hW6,← hZ];exact Blk.new w5 _ _
       have z0:W6.cell? ⟨Z,0,none⟩=some (.slice av (varsL ds).length cv):=hz6.cell 0
       have z1:W6.cell? ⟨Z,1,none⟩=some (.int .i64 (lowD ds ss).tmp):=hz6.cell 1
       have z2:W6.cell? ⟨Z,2,none⟩=some (.slice aa (arrsL ds).length ca):=hz6.cell 2
       have z3:W6.cell? ⟨Z,3,none⟩=some (.int .i64 (lowD ds ss).pts):=hz6.cell 3
       have z4:W6.cell? ⟨Z,4,none⟩=some (.int .i64 (lowD ds ss).ext):=hz6.cell 4
       have z5:W6.cell? ⟨Z,5,none⟩=some (.slice ae (lowD ds ss).eds.length ce):=hz6.cell 5
       have HS:=zh (show Calls Tryz.prog 12 #[.agg #[.slice av (varsL ds).length cv,.int .i64 (lowD ds ss).tmp,.slice aa (arrsL ds).length ca,.int .i64 (lowD ds ss).pts,.int .i64 (lowD ds ss).ext,.slice ae (lowD ds ss).eds.length ce],.slice s0 sc.length s1,.int .i64 k] W6 (fun e w8=>∃ u q,e=.returned (.tuple #[u,.int .i64 q,.int .i64 0])∧Below W6.heap.size W6 w8∧OutIn w8 W6.heap.size (runO ds ss sc k) u) from by
        refine (stepRun_any (gD ds ss) av aa ae cv ca ce sc (.slice s0 sc.length s1) k W6 ((low_in HDL.out H5.out.2.1 H5.out.2.2.1 H5.out.2.2.2).next hb56) ?_ (HTF.out _ hb6w) HFT.out (HSC.out _ hb6w) HFS.out).mono ?_
        · obtain ⟨a,c,h1,h2,h3,-⟩:=own_len H5.out.2.1
          show (varsL ds).length≤_
          unfold maxLen at h3
          omega
        · rintro e w8 ⟨u,q,rfl,hb8,ho8,-⟩
          rw [HSM.out.1,HF0.out] at ho8 ⊢
          have h8:=(ho8 rfl).1
          rw [HSM.out.2.1 HF0.out] at h8
          exact ⟨u,q,rfl,hb8,h8⟩)
       have H6:=zh (za hb6w (za hb46 hy6))
       clear hb56 hb46 hb6w hy6 hz6 hW6 hZ
       go_upto_region 10 with (first | (go_at_call 12;(with_reducible refine HS.out.mono ?_);rintro e w7 ⟨u,q,rfl,hb7,ho7⟩;obtain ⟨j0,j1,j2,b3,b4,b5,m3,d3,m4,d4,m5,d5,rfl⟩:=ho7.oform;have H7:=zh (za hb7 ho7);clear hb7 ho7) | fail)
       clear z0 z1 z2 z3 z4 z5
       obtain ⟨V,hV⟩:∃ Y,w7.heap.size=Y:=⟨_,rfl⟩
       obtain ⟨W8,hW8⟩:∃ W,w7.alloc (.cells #[.int .i64 j0,.int .i64 j1,.int .i64 j2,.slice b3 m3 d3,.slice b4 m4 d4,.slice b5 m5 d5] 47)=W:=⟨_,rfl⟩
       rw [hW8,hV]
       have hb78:Below w7.heap.size w7 W8:=by rw [← hW8];exact stp_alloc _ _
       have hb68:=stp_then H7.out.1 hb78
       have hb8w:=stp_then H6.out.1 hb68
       have hy8:=H6.out.2.2.next hb68
       have hv8:Blk W8 V #[.int .i64 j0,.int .i64 j1,.int .i64 j2,.slice b3 m3 d3,.slice b4 m4 d4,.slice b5 m5 d5] 47:=by rw [← hW8,← hV];exact Blk.new w7 _ _
       have y0:W8.cell? ⟨Y,0,none⟩=some (.int .i64 i0):=hy8.cell 0
       have y1:W8.cell? ⟨Y,1,none⟩=some (.int .i64 i1):=hy8.cell 1
       have y2:W8.cell? ⟨Y,2,none⟩=some (.int .i64 i2):=hy8.cell 2
       have y3:W8.cell? ⟨Y,3,none⟩=some (.slice a3 n3 c3):=hy8.cell 3
       have y4:W8.cell? ⟨Y,4,none⟩=some (.slice a4 n4 c4):=hy8.cell 4
       have y5:W8.cell? ⟨Y,5,none⟩=some (.slice a5 n5 c5):=hy8.cell 5
       have v0:W8.cell? ⟨V,0,none⟩=some (.int .i64 j0):=hv8.cell 0
       have v1:W8.cell? ⟨V,1,none⟩=some (.int .i64 j1):=hv8.cell 1
       have v2:W8.cell? ⟨V,2,none⟩=some (.int .i64 j2):=hv8.cell 2
       have v3:W8.cell? ⟨V,3,none⟩=some (.slice b3 m3 d3):=hv8.cell 3
       have v4:W8.cell? ⟨V,4,none⟩=some (.slice b4 m4 d4):=hv8.cell 4
       have v5:W8.cell? ⟨V,5,none⟩=some (.slice b5 m5 d5):=hv8.cell 5
       have hb38:=stp_then H4.out.2.1 (stp_then H6.out.2.1 hb68)
       have HOC:=zh (outcome_any (runO ds ss sc k) _ _ _ _ W8 (H3.out.2.next (keepsUp_below _ hb38)) (H7.out.2.next (keepsUp_below _ hb78)))
       clear hb38
       have H8:=zh hb8w
       clear hb78 hb68 hb8w hy8 hv8 hW8 hV
       go_wp2_with (first | (go_at_call 13;(with_reducible refine HOC.out.mono ?_);rintro e w9 ⟨rfl,hb9⟩) | fail)
       go_ret
       exact ⟨rfl,stp_then H8.out hb9⟩
     · have HF0:=zh h0
       have HF0n:=zh (show runF ds ss sc k≠0 by rw [h0];decide)
       clear hsm h0 hg hft hfd hfs hfew
       go_enter Tryz.func4,Tryz.ntmps4
       go_upto_region 1 with fail
       rw [HX.out,HW1.out]
       go_upto_region 5 with (first | (go_at_call 9;(with_reducible refine HKN.out.mono ?_);rintro e w2 ⟨rfl,hb2⟩;have HB2:=zh hb2;clear hb2) | (go_at_call 10;(with_reducible refine (HFW.out _).mono ?_);rintro e w2 ⟨rfl,rfl⟩) | fail)
       have hb2w:=stp_then HB1.out HB2.out
       have hx2:=HBX.out.next HB2.out
       have x0:w2.cell? ⟨X,0,none⟩=some (.slice p0 ds.length q0):=hx2.cell 0
       have x1:w2.cell? ⟨X,1,none⟩=some (.slice p1 ss.length q1):=hx2.cell 1
       have HBW2:=zh (za hb2w hx2)
       clear hb2w hx2
       go_upto_region 6 with (first | (go_at_call 11;(with_reducible refine (HR.out _ HBW2.out.1).mono ?_);rintro e w3 ⟨u,rfl,hb3,-,hz3⟩;have hou:=hz3 HF0n.out;rw [HF0.out];unfold zeroO at hou;subst hou;have H3:=zh (za hb3 True.intro);clear hb3 hz3) | fail)
       clear x0 x1
       obtain ⟨Y,hY⟩:∃ Y,w3.heap.size=Y:=⟨_,rfl⟩
       obtain ⟨W4,hW4⟩:∃ W,w3.alloc (.cells #[.int .i64 0,.int .i64 0,.int .i64 0,.slice none 0 0,.slice none 0 0,.slice none 0 0] 47)=W:=⟨_,rfl⟩
       rw [hW4,hY]
       have hb34:Below w3.heap.size w3 W4:=by rw [← hW4];exact stp_alloc _ _
       have hb4w:=stp_then (stp_then HBW2.out.1 H3.out.1) hb34
       have hx4:=(HBW2.out.2.next H3.out.1).next hb34
       have hy4:Blk W4 Y #[.int .i64 0,.int .i64 0,.int .i64 0,.slice none 0 0,.slice none 0 0,.slice none 0 0] 47:=by rw [← hW4,← hY];exact Blk.new w3 _ _
       have x0:W4.cell? ⟨X,0,none⟩=some (.slice p0 ds.length q0):=hx4.cell 0
       have x1:W4.cell? ⟨X,1,none⟩=some (.slice p1 ss.length q1):=hx4.cell 1
       have H4:=zh (za hb4w (za hb34 hy4))
       clear hb34 hb4w hx4 hy4 hW4 hY
       go_upto_region 7 with (first | (go_at_call 6;(with_reducible refine (HL.out _ H4.out.1).mono ?_);rintro e w5 ⟨u2,rfl,hb5,hc5,-⟩;obtain ⟨vv,va,ve,rfl,hv5,ha5,he5⟩:=hc5 HG0.out;rw [HG0.out];obtain ⟨av,cv,rfl⟩:=ownsRow_form hv5;obtain ⟨aa,ca,rfl⟩:=ownsRow_form ha5;obtain ⟨ae,ce,rfl⟩:=ownsRow_form he5;have H5:=zh (za hb5 (za hv5 (za ha5 he5)));clear hb5 hc5 hv5 ha5 he5) | fail)
       clear x0 x1
       obtain ⟨Z,hZ⟩:∃ Y,w5.heap.size=Y:=⟨_,rfl⟩
       obtain ⟨W6,hW6⟩:∃ W,w5.alloc (.cells #[.slice av (varsL ds).length cv,.int .i64 (lowD ds ss).tmp,.slice aa (arrsL ds).length ca,.int .i64 (lowD ds ss).pts,.int .i64 (lowD ds ss).ext,.slice ae (lowD ds ss).eds.length ce] 30)=W:=⟨_,rfl⟩
       rw [hW6,hZ]
       have hb56:Below w5.heap.size w5 W6:=by rw [← hW6];exact stp_alloc _ _
       have hb46:=stp_then H5.out.1 hb56
       have hb6w:=stp_then H4.out.1 hb46
       have hy6:=H4.out.2.2.next hb46
       have hz6:Blk W6 Z #[.slice av (varsL ds).length cv,.int .i64 (lowD ds ss).tmp,.slice aa (arrsL ds).length ca,.int .i64 (lowD ds ss).pts,.int .i64 (lowD ds ss).ext,.slice ae (lowD ds ss).eds.length ce] 30:=by rw [← hW6,← hZ];exact Blk.new w5 _ _
       have z0:W6.cell? ⟨Z,0,none⟩=some (.slice av (varsL ds).length cv):=hz6.cell 0
       have z1:W6.cell? ⟨Z,1,none⟩=some (.int .i64 (lowD ds ss).tmp):=hz6.cell 1
       have z2:W6.cell? ⟨Z,2,none⟩=some (.slice aa (arrsL ds).length ca):=hz6.cell 2
       have z3:W6.cell? ⟨Z,3,none⟩=some (.int .i64 (lowD ds ss).pts):=hz6.cell 3
       have z4:W6.cell? ⟨Z,4,none⟩=some (.int .i64 (lowD ds ss).ext):=hz6.cell 4
       have z5:W6.cell? ⟨Z,5,none⟩=some (.slice ae (lowD ds ss).eds.length ce):=hz6.cell 5
       have HS:=zh (show Calls Tryz.prog 12 #[.agg #[.slice av (varsL ds).length cv,.int .i64 (lowD ds ss).tmp,.slice aa (arrsL ds).length ca,.int .i64 (lowD ds ss).pts,.int .i64 (lowD ds ss).ext,.slice ae (lowD ds ss).eds.length ce],.slice s0 sc.length s1,.int .i64 k] W6 (fun e w8=>∃ u q,e=.returned (.tuple #[u,.int .i64 q,.int .i64 80])∧Below W6.heap.size W6 w8∧u=zeroO) from by
        refine (stepRun_any (gD ds ss) av aa ae cv ca ce sc (.slice s0 sc.length s1) k W6 ((low_in HDL.out H5.out.2.1 H5.out.2.2.1 H5.out.2.2.2).next hb56) ?_ (HTF.out _ hb6w) HFT.out (HSC.out _ hb6w) HFS.out).mono ?_
        · obtain ⟨a,c,h1,h2,h3,-⟩:=own_len H5.out.2.1
          show (varsL ds).length≤_
          unfold maxLen at h3
          omega
        · rintro e w8 ⟨u,q,rfl,hb8,-,ho8⟩
          rw [HSM.out.1,HF0.out] at ho8 ⊢
          exact ⟨u,q,rfl,hb8,(ho8 (by decide)).1⟩)
       have H6:=zh (za hb6w (za hb46 hy6))
       clear hb56 hb46 hb6w hy6 hz6 hW6 hZ
       go_upto_region 10 with (first | (go_at_call 12;(with_reducible refine HS.out.mono ?_);rintro e w7 ⟨u,q,rfl,hb7,ho7⟩;unfold zeroO at ho7;subst ho7;have H7:=zh (za hb7 True.intro);clear hb7) | fail)
       clear z0 z1 z2 z3 z4 z5
       obtain ⟨V,hV⟩:∃ Y,w7.heap.size=Y:=⟨_,rfl⟩
       obtain ⟨W8,hW8⟩:∃ W,w7.alloc (.cells #[.int .i64 0,.int .i64 0,.int .i64 0,.slice none 0 0,.slice none 0 0,.slice none 0 0] 47)=W:=⟨_,rfl⟩
       rw [hW8,hV]
       have hb78:Below w7.heap.size w7 W8:=by rw [← hW8];exact stp_alloc _ _
       have hb68:=stp_then H7.out.1 hb78
       have hb8w:=stp_then H6.out.1 hb68
       have hy8:=H6.out.2.2.next hb68
       have hv8:Blk W8 V #[.int .i64 0,.int .i64 0,.int .i64 0,.slice none 0 0,.slice none 0 0,.slice none 0 0] 47:=by rw [← hW8,← hV];exact Blk.new w7 _ _
       have y0:W8.cell? ⟨Y,0,none⟩=some (.int .i64 0):=hy8.cell 0
       have y1:W8.cell? ⟨Y,1,none⟩=some (.int .i64 0):=hy8.cell 1
       have y2:W8.cell? ⟨Y,2,none⟩=some (.int .i64 0):=hy8.cell 2
       have y3:W8.cell? ⟨Y,3,none⟩=some (.slice none 0 0):=hy8.cell 3
       have y4:W8.cell? ⟨Y,4,none⟩=some (.slice none 0 0):=hy8.cell 4
       have y5:W8.cell? ⟨Y,5,none⟩=some (.slice none 0 0):=hy8.cell 5
       have v0:W8.cell? ⟨V,0,none⟩=some (.int .i64 0):=hv8.cell 0
       have v1:W8.cell? ⟨V,1,none⟩=some (.int .i64 0):=hv8.cell 1
       have v2:W8.cell? ⟨V,2,none⟩=some (.int .i64 0):=hv8.cell 2
       have v3:W8.cell? ⟨V,3,none⟩=some (.slice none 0 0):=hv8.cell 3
       have v4:W8.cell? ⟨V,4,none⟩=some (.slice none 0 0):=hv8.cell 4
       have v5:W8.cell? ⟨V,5,none⟩=some (.slice none 0 0):=hv8.cell 5
       have HOC:=zh (show Calls Tryz.prog 13 #[.agg #[.int .i64 0,.int .i64 0,.int .i64 0,.slice none 0 0,.slice none 0 0,.slice none 0 0],.agg #[.int .i64 0,.int .i64 0,.int .i64 0,.slice none 0 0,.slice none 0 0,.slice none 0 0]] W8 (fun e w'=>e=.returned (.bool true)∧Below W8.heap.size W8 w') from outcome_zero W8)
       have H8:=zh hb8w
       clear hb78 hb68 hb8w hy8 hv8 hW8 hV
       go_wp2_with (first | (go_at_call 13;(with_reducible refine HOC.out.mono ?_);rintro e w9 ⟨rfl,hb9⟩) | fail)
       go_ret
       exact ⟨rfl,stp_then H8.out hb9⟩
   · have HG0:=zh hg
     obtain ⟨G,hG⟩:∃ g,cfgF ds ss=g:=⟨_,rfl⟩
     have hgb:(G != 0)=true:=by rw [hG] at hg;simpa using hg
     rw [hG] at HG0
     have HL2:=zh (fun (W:World) (hb:Below w.heap.size w W)=>show Calls Tryz.prog 6 #[.agg #[.slice p0 ds.length q0,.slice p1 ss.length q1]] W (fun e w'=>∃ u,e=.returned (.tuple #[u,.int .i64 G])∧Below W.heap.size W w'∧(G=0→True)∧(G≠0→u=zeroG)) from by
      refine (HL.out W hb).mono ?_
      rintro e w' ⟨u,rfl,h1,-,h2⟩
      rw [hG] at h2 ⊢
      exact ⟨u,rfl,h1,fun _=>trivial,h2⟩)
     clear HL
     have HL:=HL2
     clear HL2 hG hg hft hfd hfs hfew
     go_enter Tryz.func4,Tryz.ntmps4
     go_upto_region 1 with fail
     rw [HX.out,HW1.out]
     go_upto_region 5 with (first | (go_at_call 9;(with_reducible refine HKN.out.mono ?_);rintro e w2 ⟨rfl,hb2⟩;have HB2:=zh hb2;clear hb2) | (go_at_call 10;(with_reducible refine (HFW.out _).mono ?_);rintro e w2 ⟨rfl,rfl⟩) | fail)
     have hb2w:=stp_then HB1.out HB2.out
     have hx2:=HBX.out.next HB2.out
     have x0:w2.cell? ⟨X,0,none⟩=some (.slice p0 ds.length q0):=hx2.cell 0
     have x1:w2.cell? ⟨X,1,none⟩=some (.slice p1 ss.length q1):=hx2.cell 1
     have HBW2:=zh (za hb2w hx2)
     clear hb2w hx2
     go_upto_region 6 with (first | (go_at_call 11;(with_reducible refine (HR.out _ HBW2.out.1).mono ?_);rintro e w3 ⟨u,rfl,hb3,ho3,hz3⟩;obtain ⟨i0,i1,i2,a3,a4,a5,n3,c3,n4,c4,n5,c5,rfl⟩:=run_form ho3 hz3;have H3:=zh (za hb3 True.intro);clear hb3 ho3 hz3) | fail)
     clear x0 x1
     obtain ⟨Y,hY⟩:∃ Y,w3.heap.size=Y:=⟨_,rfl⟩
     obtain ⟨W4,hW4⟩:∃ W,w3.alloc (.cells #[.int .i64 i0,.int .i64 i1,.int .i64 i2,.slice a3 n3 c3,.slice a4 n4 c4,.slice a5 n5 c5] 47)=W:=⟨_,rfl⟩
     rw [hW4,hY]
     have hb34:Below w3.heap.size w3 W4:=by rw [← hW4];exact stp_alloc _ _
     have hb4w:=stp_then (stp_then HBW2.out.1 H3.out.1) hb34
     have hx4:=(HBW2.out.2.next H3.out.1).next hb34
     have hy4:Blk W4 Y #[.int .i64 i0,.int .i64 i1,.int .i64 i2,.slice a3 n3 c3,.slice a4 n4 c4,.slice a5 n5 c5] 47:=by rw [← hW4,← hY];exact Blk.new w3 _ _
     have x0:W4.cell? ⟨X,0,none⟩=some (.slice p0 ds.length q0):=hx4.cell 0
     have x1:W4.cell? ⟨X,1,none⟩=some (.slice p1 ss.length q1):=hx4.cell 1
     have H4:=zh (za hb4w (za hb34 hy4))
     clear hb34 hb4w hx4 hy4 hW4 hY
     go_upto_region 7 with (first | (go_at_call 6;(with_reducible refine (HL.out _ H4.out.1).mono ?_);rintro e w5 ⟨u2,rfl,hb5,-,hz5⟩;have hou:=hz5 HG0.out;unfold zeroG at hou;subst hou;have H5:=zh hb5;clear hb5 hz5) | fail)
     clear x0 x1
     go_wp2_with fail
     go_ret
     exact ⟨rfl,stp_then (stp_then H4.out.1 H5.out) (stp_alloc _ _)⟩
 · rw [show fewB sc.length k=false by simpa using hfew] at HFW
   clear hft hfd hfs hfew
   go_enter Tryz.func4,Tryz.ntmps4
   go_upto_region 1 with fail
   rw [HX.out,HW1.out]
   go_wp2_with (first | (go_at_call 9;(with_reducible refine HKN.out.mono ?_);rintro e w2 ⟨rfl,hb2⟩;have HB2:=zh hb2;clear hb2) | (go_at_call 10;(with_reducible refine (HFW.out _).mono ?_);rintro e w2 ⟨rfl,rfl⟩) | fail)
   go_ret
   exact ⟨rfl,stp_then HB1.out HB2.out⟩
end Go.Proofs.YtmohmggnjldddaaGreatDoor
