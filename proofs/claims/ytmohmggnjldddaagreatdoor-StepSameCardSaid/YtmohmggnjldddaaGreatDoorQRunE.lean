/-
  The machine's value of an expression: proved is that it is the plain run's, in whatever world, for every tree that runs; and stepless.
-/
import Derived.Test.YtmohmggnjldddaaGreatDoorQRunB
import Derived.Deep.QuietTactic
namespace Go.Proofs.YtmohmggnjldddaaGreatDoor
open Go Go.RowKit Go.Maps
def shN (K:Me) (ty:Ty) (k n:Int) (nm:ByteArray) (xl cl:Nat):Prop:=match ty with
 | .E=>1≤k∧k≤10∧(k=1→0≤n)∧(k=4 ∨ k=5→xl=1)∧(6≤k→xl=2)∧(k=2→K.E.pl nm < K.nv)∧(k=4→K.E.pl nm < K.ab.length)
 | .C=>1≤k∧k≤6∧(k=3→xl=2)∧(k=4→cl=1)∧(5≤k→cl=2)
 | .S=>1≤k∧k≤7∧(k=1→xl=1)∧(k=2→xl=2)∧(3≤k∧k≤6→cl=1)∧(k=1→K.E.pl nm < K.nv)∧(k=2→K.E.pl nm < K.ab.length)
 | .D=>True
mutual
def okN (K:Me):Nd→Prop
 | .mk ty k n nm xs cs ts es=>shN K ty k n nm xs.length cs.length∧okL K .E xs∧okL K .C cs∧okL K .S ts∧okL K .S es
def okL (K:Me):Ty→List Nd→Prop
 | _,[]=>True
 | ty,x :: r=>x.ty=ty∧okN K x∧okL K ty r
end
theorem okL_at {K:Me}:∀ {ty:Ty} {l:List Nd} (_:okL K ty l) (i:Nat) (hi:i < l.length),(l[i]).ty=ty∧okN K l[i]
 | _,x :: r,h,0,_=>by unfold okL at h;exact ⟨h.1,h.2.1⟩
 | _,x :: r,h,i+1,hi=>by
   unfold okL at h
   have:=okL_at h.2.2 i (by simpa using hi)
   simpa using this
theorem neg_wrap {n:Int} (h0:0≤n) (hn:i64ok n):IntKind.i64.wrap (-n) = -n:=by
 have h:=fits_wf hn
 exact fits_wrap (by unfold fitsI at *;omega)
def conV:Option Int→Value
 | some n=>.tuple #[.int .i64 n,.bool true]
 | none=>.tuple #[.int .i64 0,.bool false]
set_option maxRecDepth 100000 in
theorem constant_any (K:Me) (w0:World) (x:Nd) (us:List Value) (hty:x.ty=.E) (hok:okN K x) (hin:NdIn w0 x us) (w:World) (hw:Below w0.heap.size w0 w) :
    Calls Tryz.prog 188 #[.agg us.toArray] w (fun e w'=>e=.returned (conV (conN x))∧Below w.heap.size w w'):=by
 obtain ⟨ty,k,n,nm,xs,cs,ts,es⟩:=x
 simp only [Nd.ty] at hty
 subst hty
 unfold okN at hok
 obtain ⟨⟨hk1,hk2,-,hk4,-⟩,hxs,-⟩:=hok
 unfold NdIn at hin
 obtain ⟨hz,-,-,-,vx,vc,vt,ve,rfl,hsl,-⟩:=hin
 simp only [fits] at hz
 obtain ⟨rfl,rfl,rfl⟩:=hz
 obtain ⟨a,c,rfl,hlc,hcm,hrow⟩:=hsl
 change Calls _ _ #[.agg #[.int .i64 k,.int .i64 n,.string nm,.slice a xs.length c]] w _
 have hb:=(Below.refl w.heap.size w).alloc (Nat.le_refl _) (.cells #[.int .i64 k,.int .i64 n,.string nm,.slice a xs.length c] 142)
 by_cases k1:k=1
 · subst k1
   have e:conN (.mk .E 1 n nm xs [] [] [])=some n:=by unfold conN;cases xs <;> rfl
   rw [e]
   clear e hrow hw hxs hk4 hk1 hk2
   go_enter Tryz.func188,Tryz.ntmps188
   go_wp2_with fail
   go_ret2
   exact ⟨rfl,hb⟩
 have t1:(k == 1)=false:=by simpa using k1
 by_cases k5:k=5
 · subst k5
   have hl:=hk4 (.inr rfl)
   have hr2:=hrow.resolve_left (by omega)
   clear hrow
   obtain ⟨b,o,rfl,hrow⟩:=hr2
   obtain ⟨ty0,k0,n0,nm0,xs0,cs0,ts0,es0,rfl⟩:∃ ty0 k0 n0 nm0 xs0 cs0 ts0 es0,xs=[.mk ty0 k0 n0 nm0 xs0 cs0 ts0 es0]:=by
    match xs,hl with
    | [.mk ty0 k0 n0 nm0 xs0 cs0 ts0 es0],_=>exact ⟨_,_,_,_,_,_,_,_,rfl⟩
   have h0:=okL_at hxs 0 (by simp)
   simp only [List.getElem_cons_zero] at h0
   unfold RowIn at hrow
   obtain ⟨⟨hty0,us0,hc0,hin0⟩,-⟩:=hrow
   simp only [Nd.ty] at hty0
   subst hty0
   have h01:=h0.2
   unfold okN at h01
   obtain ⟨⟨-,-,hkn0,-⟩,-⟩:=h01
   unfold NdIn at hin0
   obtain ⟨-,-,hn64,-,vx0,vc0,vt0,ve0,rfl,-⟩:=hin0
   have g0:=hc0 0 (.int .i64 k0) rfl
   have g1:=hc0 1 (.int .i64 n0) rfl
   have kk:=keeps_below hw
   have g0:=kk _ _ _ g0
   have g1:=kk _ _ _ g1
   simp only [Nat.add_zero] at g0
   have hlt:b < w.heap.size:=World.block_lt_of_cell? w _ g0
   have g0:(w.alloc (.cells #[.int .i64 5,.int .i64 n,.string nm,.slice (some ⟨b,o,none⟩) [Nd.mk .E k0 n0 nm0 xs0 cs0 ts0 es0].length c] 142)).cell? ⟨b,o,none⟩=some (.int .i64 k0):=(hb.cell (p:=⟨b,o,none⟩) hlt).trans g0
   have g1:(w.alloc (.cells #[.int .i64 5,.int .i64 n,.string nm,.slice (some ⟨b,o,none⟩) [Nd.mk .E k0 n0 nm0 xs0 cs0 ts0 es0].length c] 142)).cell? ⟨b,o+1,none⟩=some (.int .i64 n0):=(hb.cell (p:=⟨b,o+1,none⟩) hlt).trans g1
   by_cases j1:k0=1
   · subst j1
     have e:conN (.mk .E 5 n nm [.mk .E 1 n0 nm0 xs0 cs0 ts0 es0] [] [] [])=some (-n0):=rfl
     rw [e]
     have hneg:=neg_wrap (hkn0 rfl) hn64
     simp only [List.length_cons,List.length_nil] at g0 g1 hb hlc ⊢
     clear e hw hxs hk4 hk1 hk2 kk h0 hc0 hkn0 hn64 hl hlt
     go_enter Tryz.func188,Tryz.ntmps188
     go_wp2_with fail
     go_ret2
     exact ⟨rfl,hb⟩
   · have u1:(k0 == 1)=false:=by simpa using j1
     have e:conN (.mk .E 5 n nm [.mk .E k0 n0 nm0 xs0 cs0 ts0 es0] [] [] [])=none:=by unfold conN conK kindN;simp [j1]
     rw [e]
     simp only [List.length_cons,List.length_nil] at g0 g1 hb hlc ⊢
     clear e hw hxs hk4 hk1 hk2 kk h0 hc0 hkn0 hn64 hl hlt j1
     go_enter Tryz.func188,Tryz.ntmps188
     go_wp2_with fail
     go_ret2
     exact ⟨rfl,hb⟩
 · have t5:(k == 5)=false:=by simpa using k5
   have e:conN (.mk .E k n nm xs [] [] [])=none:=by unfold conN;cases xs <;> simp [conK,k1,k5]
   rw [e]
   clear e hrow hw hxs hk4 hk1 hk2 k1 k5
   go_enter Tryz.func188,Tryz.ntmps188
   go_wp2_with fail
   go_ret2
   exact ⟨rfl,hb⟩
theorem tell_num (x:Int):tellV x=.tuple #[.int .i64 (numT x).1,.int .i64 (numT x).2]:=by
 unfold tellV numT
 split <;> rfl
theorem numT_fits (x:Int):fitsI (numT x).1:=by
 unfold numT
 split
 · assumption
 · decide
theorem numK_fits {k a b:Int} (ha:fitsI a):fitsI (numK k a b).1:=by
 unfold numK
 split;· exact numT_fits _
 split;· exact numT_fits _
 split;· exact numT_fits _
 split;· exact numT_fits _
 split
 · split
   · decide
   · exact numT_fits _
 · split
   · decide
   · split
     · decide
     · have:=tmod_facts a b
       unfold fitsI at ha ⊢
       simp only
       omega
set_option maxRecDepth 100000 in
theorem reckon_any (k a b:Int) (hk:5≤k∧k≤10) (ha:fitsI a) (hb:fitsI b) (w:World) :
    Calls Tryz.prog 204 #[.int .i64 k,.int .i64 a,.int .i64 b] w (fun e w'=>e=.returned (.tuple #[.int .i64 (numK k a b).1,.int .i64 (numK k a b).2])∧w'=w):=by
 obtain ⟨h5,h10⟩:=hk
 have hc:k=5 ∨ k=6 ∨ k=7 ∨ k=8 ∨ k=9 ∨ k=10:=by omega
 clear h5 h10
 rcases hc with rfl | rfl | rfl | rfl | rfl | rfl
 · have e:Value.tuple #[.int .i64 (numK 5 a b).1,.int .i64 (numK 5 a b).2]=tellV (-a):=by rw [tell_num];rfl
   rw [e]
   have HC:=Lib.hid (nneg a ha w)
   clear e
   obtain ⟨v,z,hvz⟩:=tell_form (-a)
   rw [hvz] at HC ⊢
   go_enter Tryz.func204,Tryz.ntmps204
   go_wp2_with (first | (go_at_call 129;(with_reducible refine HC.out.mono ?_);rintro e w2 ⟨rfl,rfl⟩) | fail)
   go_ret2
   exact ⟨rfl,rfl⟩
 · have e:Value.tuple #[.int .i64 (numK 6 a b).1,.int .i64 (numK 6 a b).2]=tellV (a+b):=by rw [tell_num];rfl
   rw [e]
   have HC:=Lib.hid (nadd a b ha hb w)
   clear e
   obtain ⟨v,z,hvz⟩:=tell_form (a+b)
   rw [hvz] at HC ⊢
   go_enter Tryz.func204,Tryz.ntmps204
   go_wp2_with (first | (go_at_call 131;(with_reducible refine HC.out.mono ?_);rintro e w2 ⟨rfl,rfl⟩) | fail)
   go_ret2
   exact ⟨rfl,rfl⟩
 · have e:Value.tuple #[.int .i64 (numK 7 a b).1,.int .i64 (numK 7 a b).2]=tellV (a - b):=by rw [tell_num];rfl
   rw [e]
   have HC:=Lib.hid (nsub a b ha hb w)
   clear e
   obtain ⟨v,z,hvz⟩:=tell_form (a - b)
   rw [hvz] at HC ⊢
   go_enter Tryz.func204,Tryz.ntmps204
   go_wp2_with (first | (go_at_call 132;(with_reducible refine HC.out.mono ?_);rintro e w2 ⟨rfl,rfl⟩) | fail)
   go_ret2
   exact ⟨rfl,rfl⟩
 · have e:Value.tuple #[.int .i64 (numK 8 a b).1,.int .i64 (numK 8 a b).2]=tellV (a * b):=by rw [tell_num];rfl
   rw [e]
   have HC:=Lib.hid (nmul a b ha hb w)
   clear e
   obtain ⟨v,z,hvz⟩:=tell_form (a * b)
   rw [hvz] at HC ⊢
   go_enter Tryz.func204,Tryz.ntmps204
   go_wp2_with (first | (go_at_call 133;(with_reducible refine HC.out.mono ?_);rintro e w2 ⟨rfl,rfl⟩) | fail)
   go_ret2
   exact ⟨rfl,rfl⟩
 · have e:Value.tuple #[.int .i64 (numK 9 a b).1,.int .i64 (numK 9 a b).2]=divV a b:=by
    show Value.tuple #[.int .i64 (if b=0 then ((0:Int),(2:Int)) else numT (a.tdiv b)).1,.int .i64 (if b=0 then ((0:Int),(2:Int)) else numT (a.tdiv b)).2]=_
    unfold divV
    split
    · rfl
    · rw [tell_num]
   rw [e]
   have HC:=Lib.hid (ndiv a b ha hb w)
   clear e
   obtain ⟨v,z,hvz⟩:∃ v e:Int,divV a b=.tuple #[.int .i64 v,.int .i64 e]:=by
    unfold divV
    split
    · exact ⟨_,_,rfl⟩
    · exact tell_form _
   rw [hvz] at HC ⊢
   go_enter Tryz.func204,Tryz.ntmps204
   go_wp2_with (first | (go_at_call 134;(with_reducible refine HC.out.mono ?_);rintro e w2 ⟨rfl,rfl⟩) | fail)
   go_ret2
   exact ⟨rfl,rfl⟩
 · have e:Value.tuple #[.int .i64 (numK 10 a b).1,.int .i64 (numK 10 a b).2]=remV a b:=by
    show Value.tuple #[.int .i64 (if b=0 then ((0:Int),(2:Int)) else if a = -9223372036854775808∧b = -1 then (0,1) else (a.tmod b,0)).1,.int .i64 (if b=0 then ((0:Int),(2:Int)) else if a = -9223372036854775808∧b = -1 then (0,1) else (a.tmod b,0)).2]=_
    unfold remV
    split
    · rfl
    · split <;> rfl
   rw [e]
   have HC:=Lib.hid (nrem a b ha hb w)
   clear e
   obtain ⟨v,z,hvz⟩:∃ v e:Int,remV a b=.tuple #[.int .i64 v,.int .i64 e]:=by
    unfold remV
    split
    · exact ⟨_,_,rfl⟩
    · split <;> exact ⟨_,_,rfl⟩
   rw [hvz] at HC ⊢
   go_enter Tryz.func204,Tryz.ntmps204
   go_wp2_with (first | (go_at_call 135;(with_reducible refine HC.out.mono ?_);rintro e w2 ⟨rfl,rfl⟩) | fail)
   go_ret2
   exact ⟨rfl,rfl⟩
def RVal (K:Me) (w0:World) (x:Nd):Prop:=∀ us s r w,NdIn w0 x us→Below w0.heap.size w0 w→At K w s r→Calls Tryz.prog 161 #[.pointer (some ⟨K.M,0,none⟩),.agg us.toArray] w (Ran K intV fitsI r w (valN K.E x s))
def argR (fs:List (Rn→Res Int)):Nat→Rn→Res (Int × Int)
 | 0,s=>.go (0,0) s
 | 1,s=>(fnR fs 0 s).bind fun a s=>.go (a,0) s
 | _,s=>(fnR fs 0 s).bind fun a s=>(fnR fs 1 s).bind fun b s=>.go (a,b) s
theorem argR_zero (fs:List (Rn→Res Int)) (s:Rn):argR fs 0 s=.go (0,0) s:=rfl
theorem argR_one (fs:List (Rn→Res Int)) (s:Rn):argR fs 1 s=(fnR fs 0 s).bind fun a s=>.go (a,0) s:=rfl
theorem argR_two (fs:List (Rn→Res Int)) (s:Rn):argR fs 2 s=(fnR fs 0 s).bind fun a s=>(fnR fs 1 s).bind fun b s=>.go (a,b) s:=rfl
theorem argR_step {fs:List (Rn→Res Int)} {i:Nat} {s0 s s':Rn} {p:Int × Int} {v:Int} (h:argR fs i s0=.go p s) (hi:i < 2) (hv:fnR fs i s=.go v s'):argR fs (i+1) s0=.go (if i=0 then (v,p.2) else (p.1,v)) s':=by
 have hc:i=0 ∨ i=1:=by omega
 rcases hc with rfl | rfl
 · rw [argR_zero] at h
   cases h
   rw [Nat.zero_add,argR_one,hv]
   rfl
 · rw [argR_one] at h
   rw [show 1+1=2 from rfl,argR_two]
   cases h0:fnR fs 0 s0 with
   | stop x y s2=>rw [h0] at h;cases h
   | go a s2 =>
     rw [h0] at h
     cases h
     change (fnR fs 1 s).bind _=_
     rw [hv]
     rfl
theorem argR_stop {fs:List (Rn→Res Int)} {i n:Nat} {s0 s s':Rn} {p:Int × Int} {x y:Int} (h:argR fs i s0=.go p s) (hi:i < n) (hn:n≤2) (hv:fnR fs i s=.stop x y s'):argR fs n s0=.stop x y s':=by
 have hc:(i=0∧n=1) ∨ (i=0∧n=2) ∨ (i=1∧n=2):=by omega
 rcases hc with ⟨rfl,rfl⟩ | ⟨rfl,rfl⟩ | ⟨rfl,rfl⟩
 · rw [argR_zero] at h
   cases h
   rw [argR_one,hv]
   rfl
 · rw [argR_zero] at h
   cases h
   rw [argR_two,hv]
   rfl
 · rw [argR_one] at h
   rw [argR_two]
   cases h0:fnR fs 0 s0 with
   | stop x y s2=>rw [h0] at h;cases h
   | go a s2 =>
     rw [h0] at h
     cases h
     change (fnR fs 1 s).bind _=_
     rw [hv]
     rfl
theorem val_op (E:Rv) (k:Int) (nm:ByteArray) (fs:List (Rn→Res Int)) (s:Rn) (hk:5≤k) (n:Nat) (h5:k=5→n=1) (h6:6≤k→n=2):valK E k nm none fs s=(argR fs n s).bind fun p s=>doK E k p.1 p.2 s:=by
 unfold valK
 simp only
 rw [if_neg (by omega),if_neg (by omega),if_neg (by omega)]
 by_cases h:k=5
 · rw [if_pos h,h5 h,argR_one]
   cases fnR fs 0 s <;> rfl
 · rw [if_neg h,h6 (by omega),argR_two]
   cases fnR fs 0 s with
   | stop x y s'=>rfl
   | go a s' =>
     show (fnR fs 1 s').bind _=((fnR fs 1 s').bind _).bind _
     cases fnR fs 1 s' <;> rfl
theorem pair_set (a b v:Int) (i:Nat) (hi:i < 2):(#[.int .i64 a,.int .i64 b]:Array Value).setIfInBounds i (.int .i64 v)=#[.int .i64 (if i=0 then (v,b) else (a,v)).1,.int .i64 (if i=0 then (v,b) else (a,v)).2]:=by
 match i,hi with
 | 0,_=>rfl
 | 1,_=>rfl
structure OpIn (K:Me) (r:Option Nat) (w:World) (fs:List (Rn→Res Int)) (s:Rn) (X Y:Nat) (cs:Array Value) (i:Nat) (a b:Int) (s':Rn) (r':Option Nat) (wr:World):Prop where
 res:argR fs i s=.go (a,b) s'
 fa:fitsI a
 fb:fitsI b
 kr:Kr K r r' w wr
 run:At K wr s' r'
 tx:Tm K wr r' X cs 142
 ty:Tm K wr r' Y #[.int .i64 a,.int .i64 b] 264
 ne:X ≠ Y
 ge:w.heap.size≤Y
theorem Kr.tmp {K:Me} {r r':Option Nat} {a w w':World} {Y:Nat} (h:Kr K r r' a w) (ho:Only Y w w') (hY:a.heap.size≤Y):Kr K r r' a w' :=
 ⟨ho.os.trans h.os,ho.tape.trans h.tape,ho.output.trans h.output,Nat.le_trans h.size ho.size,fun k hk h1 h2 h3 h4=>(ho.block k (Nat.lt_of_lt_of_le hk h.size) (by omega)).trans (h.block k hk h1 h2 h3 h4),h.row⟩
set_option maxRecDepth 100000 in
set_option maxHeartbeats 4000000 in
theorem operation_any (K:Me) (hk:K.ok) (w0:World) (hH:w0.heap.size≤K.H0) (x:Nd) (us:List Value) (hty:x.ty=.E) (hok:okN K x) (h5:5≤kindN x) (hcon:conN x=none) (hch0:∀ xs,(∃ ty k n nm cs ts es,x=.mk ty k n nm xs cs ts es)→∀ i (hi:i < xs.length),RVal K w0 xs[i]) (s:Rn) (r:Option Nat) (w:World) (hin:NdIn w0 x us) (hw:Below w0.heap.size w0 w) (h:At K w s r) :
    Calls Tryz.prog 190 #[.pointer (some ⟨K.M,0,none⟩),.agg us.toArray] w (Ran K intV fitsI r w (valN K.E x s)):=by
 obtain ⟨ty,k,n,nm,xs,cs,ts,es⟩:=x
 simp only [Nd.ty] at hty
 subst hty
 have hch:=hch0 xs ⟨_,_,_,_,_,_,_,rfl⟩
 clear hch0
 have hk5:5≤k:=h5
 clear h5
 unfold okN at hok
 obtain ⟨⟨-,hk10,-,hl1,hl2,-⟩,-⟩:=hok
 have hvo:=val_op K.E k nm (valL K.E xs) s hk5 xs.length (fun e=>hl1 (.inr e)) hl2
 have hcon':conK k n xs=none:=hcon
 unfold valN
 rw [hcon',hvo]
 clear hvo hcon hcon'
 have hlen:xs.length≤2:=by
  by_cases h6:6≤k
  · have:=hl2 h6;omega
  · have:=hl1 (by omega);omega
 have hlen1:1≤xs.length:=by
  by_cases h6:6≤k
  · have:=hl2 h6;omega
  · have:=hl1 (by omega);omega
 clear hl1 hl2
 have hat:=valL_at K.E xs
 obtain ⟨fs,hfs⟩:∃ fs,valL K.E xs=fs:=⟨_,rfl⟩
 rw [hfs] at hat ⊢
 clear hfs
 obtain ⟨R,hR⟩:∃ R,((argR fs xs.length s).bind fun p s=>doK K.E k p.1 p.2 s)=R:=⟨_,rfl⟩
 rw [hR]
 unfold NdIn at hin
 obtain ⟨hz,-,hn64,-,vx,vc,vt,ve,rfl,hxs,-⟩:=hin
 simp only [fits] at hz
 obtain ⟨rfl,rfl,rfl⟩:=hz
 obtain ⟨a,c,rfl,hlc,hcm,hrow⟩:=hxs
 change Calls _ _ #[_,.agg #[.int .i64 k,.int .i64 n,.string nm,.slice a xs.length c]] w _
 obtain ⟨b0,o,rfl,hrw⟩:=hrow.resolve_left (by omega)
 clear hrow
 have ht:=Tm.new h #[.int .i64 k,.int .i64 n,.string nm,.slice (some ⟨b0,o,none⟩) xs.length c] 142
 have h1:=h.alloc hk (.cells #[.int .i64 k,.int .i64 n,.string nm,.slice (some ⟨b0,o,none⟩) xs.length c] 142)
 obtain ⟨W1,hW1⟩:∃ W1,w.alloc (.cells #[.int .i64 k,.int .i64 n,.string nm,.slice (some ⟨b0,o,none⟩) xs.length c] 142)=W1:=⟨_,rfl⟩
 obtain ⟨X,hX⟩:∃ X,w.heap.size=X:=⟨_,rfl⟩
 have hkr:Kr K r r w W1:=by rw [← hW1];exact (Kr.refl K r w).alloc _
 rw [hW1] at ht h1
 rw [hX] at ht
 have hy:=Tm.new h1 #[.int .i64 0,.int .i64 0] 264
 have h2:=h1.alloc hk (.cells #[.int .i64 0,.int .i64 0] 264)
 have ht2:=ht.kr hk ((Kr.refl K r W1).alloc (.cells #[.int .i64 0,.int .i64 0] 264))
 obtain ⟨W2,hW2⟩:∃ W2,W1.alloc (.cells #[.int .i64 0,.int .i64 0] 264)=W2:=⟨_,rfl⟩
 obtain ⟨Y,hY⟩:∃ Y,W1.heap.size=Y:=⟨_,rfl⟩
 have hkr2:Kr K r r w W2:=by rw [← hW2];exact hkr.alloc _
 rw [hW2] at hy h2 ht2
 rw [hY] at hy
 have hXY:X ≠ Y:=by have:=ht.blk.lt;omega
 have hI:OpIn K r w fs s X Y #[.int .i64 k,.int .i64 n,.string nm,.slice (some ⟨b0,o,none⟩) xs.length c] 0 0 0 s r W2:=⟨rfl,by decide,by decide,hkr2,h2,ht2,hy,hXY,by rw [← hY,← hW1,World.size_alloc];omega⟩
 have x3:W2.cell? ⟨X,3,none⟩=some (.slice (some ⟨b0,o,none⟩) xs.length c):=ht2.blk.cell 3
 have HI:=Lib.hid hI;clear hI
 have HH:=Lib.hid (And.intro hw (And.intro h (And.intro hat (And.intro hR hch))))
 have HROW:=Lib.hid hrw;clear hrw
 have HW1:=Lib.hid hW1;clear hW1
 have HW2:=Lib.hid hW2;clear hW2
 have HX:=Lib.hid hX;clear hX
 have HY:=Lib.hid hY;clear hY
 have HK10:=Lib.hid (And.intro hk5 (And.intro hk10 (And.intro hlen hlen1)))
 clear h1 ht hkr hy h2 ht2 hkr2 hXY hw h hat hR hch hn64 hk5 hk10
 have hbig:(xs.length:Int)≤2:=by omega
 go_enter Tryz.func190,Tryz.ntmps190
 go_upto_region 1 with fail
 rw [HW1.out,HX.out]
 go_upto_region 2 with fail
 rw [HW2.out,HY.out]
 go_upto_block 0 with fail
 clear x3
 go_wp2_with fail
 go_loopw [13] (fun x wr=>∃ (i:Nat) (a b:Int) (s':Rn) (r':Option Nat),x=.int .i64 i∧i≤xs.length∧OpIn K r w fs s X Y #[.int .i64 k,.int .i64 n,.string nm,.slice (some ⟨b0,o,none⟩) xs.length c] i a b s' r' wr) (fun x _=>xs.length - (intOf x).toNat)
 case atStart=>exact ⟨0,0,0,s,r,rfl,by omega,HI.out⟩
 case round =>
  obtain ⟨i,va,vb,s1,r1,rfl,hi,hI⟩:=hrel
  have HIN:=Lib.hid hI;clear hI HI
  by_cases hlt:i < xs.length
  · have hbi:(i:Int)+1≤9223372036854775807:=by omega
    have hold:Below w0.heap.size w0 wr:=HH.out.1.trans ((HIN.out.kr.old hk HH.out.2.1).mono hH)
    obtain ⟨hty,u0,u1,u2,u3,m0,m1,m2,m3,hnd⟩:=SlIn.item4 rfl HROW.out i hlt
    obtain ⟨fk,fn,fs',fa,fl,fc,rfl,rfl,rfl,rfl⟩:=NdIn.formE hty hnd
    have kk:=keeps_below hold
    have k0:=kk _ _ _ m0
    have k1:=kk _ _ _ m1
    have k2:=kk _ _ _ m2
    have k3:=kk _ _ _ m3
    have ht3:=HIN.out.run.alloc hk (.cells #[.int .i64 fk,.int .i64 fn,.string fs',.slice fa fl fc] 142)
    have HC:=Lib.hid (HH.out.2.2.2.2 i hlt _ s1 r1 _ hnd (hold.alloc hold.size (.cells #[.int .i64 fk,.int .i64 fn,.string fs',.slice fa fl fc] 142)) ht3)
    have HAT:=Lib.hid (HH.out.2.2.1 i hlt)
    have hi2:(i:Int) < 2:=by omega
    clear m0 m1 m2 m3 kk hold hnd ht3 hty
    go_wp2_with fail
    refine HC.out.mono ?_
    rintro e w3 ⟨r3,hk3,⟨v,s3,hr3,rfl,hf3,h3⟩ | ⟨st,wr3,s3,hr3,rfl,h3⟩⟩
    · have hty3:=(HIN.out.ty.next ((Below.refl _ wr).alloc (Nat.le_refl _) (.cells #[.int .i64 fk,.int .i64 fn,.string fs',.slice fa fl fc] 142))).kr hk hk3
      have htx3:=(HIN.out.tx.next ((Below.refl _ wr).alloc (Nat.le_refl _) (.cells #[.int .i64 fk,.int .i64 fn,.string fs',.slice fa fl fc] 142))).kr hk hk3
      have hio:i < 2:=by omega
      obtain ⟨z,y0⟩:∃ z,w3.cell? ⟨Y,i,none⟩=some z:=⟨(#[Value.int .i64 va,Value.int .i64 vb])[i]'(by simpa using hio),by rw [hty3.blk.cell];exact Array.getElem?_eq_getElem (by simpa using hio)⟩
      have f0:=hty3.blk.free i
      have hst:=argR_step HIN.out.res hio (by rw [HAT.out];exact hr3)
      have ho:Only Y w3 (w3.setCell ⟨Y,i,none⟩ (.int .i64 v)):=(Only.refl Y w3).setCell (p:=⟨Y,i,none⟩) rfl _
      have hnew:OpIn K r w fs s X Y #[.int .i64 k,.int .i64 n,.string nm,.slice (some ⟨b0,o,none⟩) xs.length c] (i+1) (if i=0 then (v,vb) else (va,v)).1 (if i=0 then (v,vb) else (va,v)).2 s3 r3 (w3.setCell ⟨Y,i,none⟩ (.int .i64 v)) :=
       { res:=hst
         fa:=by
          split
          · exact hf3
          · exact HIN.out.fa
         fb:=by
          split
          · exact HIN.out.fb
          · exact hf3
         kr:=((HIN.out.kr.alloc _).trans hk3).tmp ho HIN.out.ge
         ge:=HIN.out.ge
         run:=h3.tmp hk hty3.base hty3.row ho
         tx:=⟨htx3.blk.other (a:=⟨Y,i,none⟩) HIN.out.ne _,htx3.base,htx3.row⟩
         ty:=by have:=hty3.set i (.int .i64 v);rwa [pair_set _ _ _ _ hio] at this
         ne:=HIN.out.ne }
      have HNEW:=Lib.hid hnew
      have HLT:=Lib.hid hlt
      have HBIG:=Lib.hid hbig
      clear hnew hty3 htx3 hst ho hk3 h3 hr3 k0 k1 k2 k3 HC HAT hlc hcm hlt hi hlen hlen1 hbig
      go_wp2_with fail
      go_roundw
      case rel=>exact ⟨i+1,_,_,s3,r3,by go_num,by have:=HLT.out;omega,HNEW.out⟩
      case measure=>have:=HLT.out;simp [intOf];omega
    · refine ⟨rfl,Ran.stop ?_ ((HIN.out.kr.alloc _).trans hk3) h3⟩
      rw [← HH.out.2.2.2.1,argR_stop HIN.out.res hlt hlen (by rw [HAT.out];exact hr3)]
      rfl
  · obtain rfl:i=xs.length:=by omega
    have HS:=Lib.hid (step_any K hk s1 r1 wr HIN.out.run)
    go_wp2_with fail
    refine HS.out.mono ?_
    rintro e w3 ⟨r3,hk3,⟨u,s3,hr3,rfl,-,h3⟩ | ⟨st,wr3,s3,hr3,rfl,h3⟩⟩
    · have hty3:=HIN.out.ty.kr hk hk3
      have htx3:=HIN.out.tx.kr hk hk3
      have y0:w3.cell? ⟨Y,0,none⟩=some (.int .i64 va):=hty3.blk.cell 0
      have y1:w3.cell? ⟨Y,1,none⟩=some (.int .i64 vb):=hty3.blk.cell 1
      have x0:w3.cell? ⟨X,0,none⟩=some (.int .i64 k):=htx3.blk.cell 0
      have hR:=HH.out.2.2.2.1
      rw [HIN.out.res] at hR
      change doK K.E k va vb s1=R at hR
      unfold doK at hR
      rw [hr3] at hR
      change (if _ then _ else _)=R at hR
      have HC:=Lib.hid (reckon_any k va vb ⟨HK10.out.1,HK10.out.2.1⟩ HIN.out.fa HIN.out.fb w3)
      have HF:=Lib.hid (numK_fits (k:=k) (b:=vb) HIN.out.fa)
      obtain ⟨⟨V,Z⟩,hVZ⟩:∃ p,numK k va vb=p:=⟨_,rfl⟩
      rw [hVZ] at hR HC HF
      simp only at hR HC HF
      have HKR:=Lib.hid (And.intro hR (And.intro (HIN.out.kr.trans hk3) h3))
      clear hty3 htx3 hk3 h3 hr3 HS hVZ hR
      by_cases hz:Z=0
      · subst hz
        go_wp2_with (first | (go_at_call 204;(with_reducible refine HC.out.mono ?_);rintro e w4 ⟨rfl,rfl⟩) | fail)
        go_ret
        obtain ⟨hR,hkr,h3⟩:=HKR.out
        simp only [if_true] at hR
        exact Ran.go (val:=intV) hR.symm hkr HF.out h3
      · have hzb:(Z != 0)=true:=by simpa using hz
        go_wp2_with (first | (go_at_call 204;(with_reducible refine HC.out.mono ?_);rintro e w4 ⟨rfl,rfl⟩) | fail)
        refine (fail_any _ _ _).mono ?_
        rintro e w4 ⟨rfl,rfl⟩
        obtain ⟨hR,hkr,h3⟩:=HKR.out
        rw [if_neg hz] at hR
        exact ⟨rfl,Ran.stop hR.symm hkr h3⟩
    · refine ⟨rfl,Ran.stop ?_ (HIN.out.kr.trans hk3) h3⟩
      rw [← HH.out.2.2.2.1,HIN.out.res]
      show doK K.E k va vb s1=_
      unfold doK
      rw [hr3]
      rfl
theorem con_fits {K:Me} {w0:World} {x:Nd} {us:List Value} (hty:x.ty=.E) (hok:okN K x) (hin:NdIn w0 x us) {v:Int} (h:conN x=some v):fitsI v:=by
 obtain ⟨ty,k,n,nm,xs,cs,ts,es⟩:=x
 simp only [Nd.ty] at hty
 subst hty
 unfold okN at hok
 obtain ⟨⟨hk1,hk2,-,hk4,-⟩,hxs,-⟩:=hok
 unfold NdIn at hin
 obtain ⟨-,-,hn,-,vx,vc,vt,ve,-,hsl,-⟩:=hin
 unfold conN at h
 cases xs with
 | nil =>
   change (if k=1 then some n else none)=some v at h
   split at h
   · cases h;exact fits_wf hn
   · cases h
 | cons y l =>
   change (if k=1 then some n else if k=5∧kindN y=1 then some (-(numN y)) else none)=some v at h
   split at h
   · cases h;exact fits_wf hn
   · split at h
     · rename_i hq
       cases h
       obtain ⟨_,_,_,_,_,hrow⟩:=hsl
       obtain ⟨b,o,-,hrw⟩:=hrow.resolve_left (by simp)
       have h0:=okL_at hxs 0 (by simp)
       simp only [List.getElem_cons_zero] at h0
       unfold RowIn at hrw
       obtain ⟨⟨hty0,us0,-,hin0⟩,-⟩:=hrw
       obtain ⟨ty0,k0,n0,nm0,xs0,cs0,ts0,es0⟩:=y
       simp only [Nd.ty] at hty0
       subst hty0
       have h01:=h0.2
       unfold okN at h01
       obtain ⟨⟨-,-,hkn0,-⟩,-⟩:=h01
       unfold NdIn at hin0
       obtain ⟨-,-,hn64,-⟩:=hin0
       have h0n:=hkn0 hq.2
       have:=fits_wf hn64
       simp only [numN]
       unfold fitsI at this ⊢
       omega
     · cases h
theorem val_item (E:Rv) (nm:ByteArray) (fs:List (Rn→Res Int)) (s:Rn):valK E 4 nm none fs s=(fnR fs 0 s).bind fun i s=>(itemR E nm i s).bind fun j s=>.go ((s.arrs.getD (E.pl nm) []).getD j 0) s:=rfl
theorem vars_at {K:Me} {w:World} {s:Rn} {sv ve:Value} (h:Mc K w s sv ve) (i:Nat) (hi:i < K.nv):w.cell? ⟨K.vb,i,none⟩=some (.int .i64 (s.vars.getD i 0))∧w.frozen? ⟨K.vb,i,none⟩=false∧fitsI (s.vars.getD i 0):=by
 have hl:i < s.vars.length:=by rw [h.nv];exact hi
 refine ⟨by rw [h.vars.cell];exact intsV_at _ _ hl,h.vars.free i,?_⟩
 rw [List.getD_eq_getElem?_getD,List.getElem?_eq_getElem hl]
 exact h.fv _ (List.getElem_mem hl)
theorem arrs_at {K:Me} {w:World} {s:Rn} {sv ve:Value} (h:Mc K w s sv ve) (nm:ByteArray) (hp:K.E.pl nm < K.ab.length) (j:Nat) (hj:j < (arrB K nm).2):w.cell? ⟨(arrB K nm).1,j,none⟩=some (.int .i64 ((s.arrs.getD (K.E.pl nm) []).getD j 0))∧w.frozen? ⟨(arrB K nm).1,j,none⟩=false∧fitsI ((s.arrs.getD (K.E.pl nm) []).getD j 0):=by
 have hab:arrB K nm=K.ab[K.E.pl nm]:=by unfold arrB;rw [List.getD_eq_getElem?_getD,List.getElem?_eq_getElem hp];rfl
 rw [hab] at hj ⊢
 have hz:=h.sz _ hp
 have hl:j < (s.arrs.getD (K.E.pl nm) []).length:=by rw [hz];exact hj
 have hX:=h.arrs _ hp
 refine ⟨by rw [hX.cell];exact intsV_at _ _ hl,hX.free j,?_⟩
 have hna:=h.na
 rw [List.getD_eq_getElem?_getD,List.getElem?_eq_getElem hl]
 refine h.fa _ ?_ _ (List.getElem_mem hl)
 rw [List.getD_eq_getElem?_getD,List.getElem?_eq_getElem (by omega)]
 exact List.getElem_mem _
set_option maxRecDepth 100000 in
set_option maxHeartbeats 8000000 in
theorem value_any (K:Me) (hk:K.ok) (w0:World) (hH:w0.heap.size≤K.H0):∀ (N:Nat) (x:Nd),SizeOf.sizeOf x≤N→x.ty=.E→okN K x→RVal K w0 x:=by
 intro N
 induction N with
 | zero =>
   intro x hN
   obtain ⟨ty,k,n,nm,xs,cs,ts,es⟩:=x
   simp only [Nd.mk.sizeOf_spec] at hN
   omega
 | succ N ih =>
   intro x hN hty hok us s r w hin hw h
   have hcf:=fun v=>con_fits (v:=v) hty hok hin
   have hcon:=constant_any K w0 x us hty hok hin
   have hopr:=fun h5 hc hch=>operation_any K hk w0 hH x us hty hok h5 hc hch
   obtain ⟨ty,k,n,nm,xs,cs,ts,es⟩:=x
   simp only [Nd.mk.sizeOf_spec] at hN
   simp only [Nd.ty] at hty
   subst hty
   have hin0:=hin
   have hok0:=hok
   unfold okN at hok
   obtain ⟨⟨hk1,hk10,-,hl1,hl2,hp2,hp4⟩,hgx,-⟩:=hok
   have hch:∀ i (hi:i < xs.length),RVal K w0 xs[i]:=fun i hi=>ih xs[i] (by have:=List.sizeOf_lt_of_mem (List.getElem_mem (l:=xs) (n:=i) hi);omega) (okL_at hgx i hi).1 (okL_at hgx i hi).2
   clear ih hN
   unfold NdIn at hin
   obtain ⟨hz,-,hn64,hnm,vx,vc,vt,ve,rfl,hxs,-⟩:=hin
   simp only [fits] at hz
   obtain ⟨rfl,rfl,rfl⟩:=hz
   obtain ⟨a,c,rfl,hlc,hcm,hrow⟩:=hxs
   unfold lay at hin0
   change ∀ w,_→Calls _ _ #[.agg #[.int .i64 k,.int .i64 n,.string nm,.slice a xs.length c]] w _ at hcon
   change ∀ h5 hc hch s r w,_→_→_→Calls _ _ #[_,.agg #[.int .i64 k,.int .i64 n,.string nm,.slice a xs.length c]] w _ at hopr
   change Calls _ _ #[_,.agg #[.int .i64 k,.int .i64 n,.string nm,.slice a xs.length c]] w _
   obtain ⟨CN,hCN⟩:∃ c,conN (.mk .E k n nm xs [] [] [])=c:=⟨_,rfl⟩
   rw [hCN] at hcf
   simp only [hCN] at hcon
   have hval:valN K.E (.mk .E k n nm xs [] [] []) s=valK K.E k nm CN (valL K.E xs) s:=by unfold valN;rw [← hCN];rfl
   have hhop:∀ (h5:5≤k) (hc:CN=none),∀ w1,At K w1 s r→Below w0.heap.size w0 w1→Calls Tryz.prog 190 #[.pointer (some ⟨K.M,0,none⟩),.agg #[.int .i64 k,.int .i64 n,.string nm,.slice a xs.length c]] w1 (Ran K intV fitsI r w1 (valN K.E (.mk .E k n nm xs [] [] []) s)):=fun h5 hc w1 h1 hw1 =>
    hopr h5 (hCN.trans hc) (fun xs' ⟨_,_,_,_,_,_,_,e⟩ i hi=>by cases e;exact hch i hi) s r w1 hin0 hw1 h1
   rw [hval]
   rw [hval] at hhop
   obtain ⟨R,hR⟩:∃ R,valK K.E k nm CN (valL K.E xs) s=R:=⟨_,rfl⟩
   rw [hR]
   rw [hR] at hhop
   have hne1:CN=none→k ≠ 1:=by
    intro e h1
    subst h1
    rw [← hCN] at e
    cases xs <;> simp [conN,conK] at e
   have HNE:=Lib.hid hne1
   clear hopr hCN hval hok0 hne1
   have ht:=Tm.new h #[.int .i64 k,.int .i64 n,.string nm,.slice a xs.length c] 142
   have h1:=h.alloc hk (.cells #[.int .i64 k,.int .i64 n,.string nm,.slice a xs.length c] 142)
   obtain ⟨W1,hW1⟩:∃ W1,w.alloc (.cells #[.int .i64 k,.int .i64 n,.string nm,.slice a xs.length c] 142)=W1:=⟨_,rfl⟩
   obtain ⟨X,hX⟩:∃ X,w.heap.size=X:=⟨_,rfl⟩
   have hkr:Kr K r r w W1:=by rw [← hW1];exact (Kr.refl K r w).alloc _
   rw [hW1] at ht h1
   rw [hX] at ht
   have hw1:Below w0.heap.size w0 W1:=hw.trans ((hkr.old hk h).mono hH)
   have x0:W1.cell? ⟨X,0,none⟩=some (.int .i64 k):=ht.blk.cell 0
   have x1:W1.cell? ⟨X,1,none⟩=some (.int .i64 n):=ht.blk.cell 1
   have x2:W1.cell? ⟨X,2,none⟩=some (.string nm):=ht.blk.cell 2
   have x3:W1.cell? ⟨X,3,none⟩=some (.slice a xs.length c):=ht.blk.cell 3
   have HCON:=Lib.hid (hcon W1 hw1);clear hcon
   have HHOP:=Lib.hid hhop;clear hhop
   have HT:=Lib.hid (And.intro ht (And.intro h1 (And.intro hkr (And.intro hw1 hR))));clear ht h1 hkr hw1 hR
   have HW1:=Lib.hid hW1;clear hW1
   have HX:=Lib.hid hX;clear hX
   have HL:=Lib.hid (And.intro hl1 (And.intro hl2 (And.intro hp2 (And.intro hp4 (And.intro hnm (And.intro hk1 hk10))))));clear hl1 hl2 hp2 hp4 hnm hk1 hk10
   have HROW:=Lib.hid hrow;clear hrow
   have HCH:=Lib.hid hch;clear hch
   clear hn64 hgx hin0 hw h
   cases CN with
   | some v =>
     have HF:=Lib.hid (hcf v rfl)
     clear hcf
     unfold conV at HCON
     go_enter Tryz.func161,Tryz.ntmps161
     go_upto_region 1 with fail
     rw [HW1.out,HX.out]
     go_wp2_with (first | (go_at_call 188;(with_reducible refine HCON.out.mono ?_);rintro e w2 ⟨rfl,hb2⟩;have HB2:=Lib.hid hb2;clear hb2) | fail)
     go_ret
     obtain ⟨ht,h1,hkr,hw1,hR⟩:=HT.out
     exact Ran.go (val:=intV) hR.symm (hkr.trans (Kr.below HB2.out)) HF.out (h1.next hk HB2.out)
   | none =>
     clear hcf
     unfold conV at HCON
     by_cases k2:k=2
     · subst k2
       have hp:=HL.out.2.2.1 rfl
       go_enter Tryz.func161,Tryz.ntmps161
       go_upto_region 1 with fail
       rw [HW1.out,HX.out]
       clear HW1
       go_upto_region 4 with (first | (go_at_call 188;(with_reducible refine HCON.out.mono ?_);rintro e w2 ⟨rfl,hb2⟩;have HB2:=Lib.hid hb2;have q0:w2.cell? ⟨X,0,none⟩=some (.int .i64 2):=(HT.out.1.next hb2).blk.cell 0;have q1:w2.cell? ⟨X,1,none⟩=some (.int .i64 n):=(HT.out.1.next hb2).blk.cell 1;have q2:w2.cell? ⟨X,2,none⟩=some (.string nm):=(HT.out.1.next hb2).blk.cell 2;have q3:w2.cell? ⟨X,3,none⟩=some (.slice a xs.length c):=(HT.out.1.next hb2).blk.cell 3;have HA2:=Lib.hid (HT.out.2.1.next hk hb2);clear hb2) | fail)
       obtain ⟨sv,ve,hm,he⟩:=HA2.out
       obtain ⟨v1,v2,hfv⟩:=vars_at hm _ hp
       have HV:=Lib.hid (variable_any K hk s r nm HL.out.2.2.2.2.1 hp w2 HA2.out)
       have hR:=HT.out.2.2.2.2
       unfold valK at hR
       simp only [if_true] at hR
       obtain ⟨I,hI⟩:∃ I:Nat,K.E.pl nm=I:=⟨_,rfl⟩
       rw [hI] at v1 v2 hfv HV hR
       have HR:=Lib.hid (And.intro hR hfv)
       clear hm he hp hI hR hfv hlc hcm
       go_wp2_with (first | (go_at_call 187;(with_reducible refine HV.out.mono ?_);rintro e w3 ⟨rfl,rfl⟩) | fail)
       go_ret
       obtain ⟨ht,h1,hkr,hw1,-⟩:=HT.out
       exact Ran.go (val:=intV) HR.out.1.symm (hkr.trans (Kr.below HB2.out)).drew HR.out.2 (HA2.out.drew hk)
     have t2:(k == 2)=false:=by simpa using k2
     by_cases k3:k=3
     · subst k3
       have hR:=HT.out.2.2.2.2
       unfold valK at hR
       simp only [if_true] at hR
       rw [if_neg (by decide)] at hR
       have HR:=Lib.hid hR
       clear hR
       go_enter Tryz.func161,Tryz.ntmps161
       go_upto_region 1 with fail
       rw [HW1.out,HX.out]
       clear HW1
       go_upto_region 4 with (first | (go_at_call 188;(with_reducible refine HCON.out.mono ?_);rintro e w2 ⟨rfl,hb2⟩;have HB2:=Lib.hid hb2;have q0:w2.cell? ⟨X,0,none⟩=some (.int .i64 3):=(HT.out.1.next hb2).blk.cell 0;have q1:w2.cell? ⟨X,1,none⟩=some (.int .i64 n):=(HT.out.1.next hb2).blk.cell 1;have q2:w2.cell? ⟨X,2,none⟩=some (.string nm):=(HT.out.1.next hb2).blk.cell 2;have q3:w2.cell? ⟨X,3,none⟩=some (.slice a xs.length c):=(HT.out.1.next hb2).blk.cell 3;have HA2:=Lib.hid (HT.out.2.1.next hk hb2);clear hb2) | fail)
       have HV:=Lib.hid (input_any K hk s r w2 HA2.out)
       go_wp2_with fail
       refine HV.out.mono ?_
       rintro e w3 ⟨r3,hk3,⟨v,s3,hr3,rfl,hf3,h3⟩ | ⟨st,wr3,s3,hr3,rfl,h3⟩⟩
       · have H3:=Lib.hid (And.intro hk3 (And.intro hr3 (And.intro hf3 h3)))
         clear hk3 hr3 hf3 h3
         go_wp2_with fail
         go_ret
         exact Ran.go (val:=intV) (HR.out.symm.trans H3.out.2.1) ((HT.out.2.2.1.trans (Kr.below HB2.out)).trans H3.out.1) H3.out.2.2.1 H3.out.2.2.2
       · exact ⟨rfl,Ran.stop (HR.out.symm.trans hr3) ((HT.out.2.2.1.trans (Kr.below HB2.out)).trans hk3) h3⟩
     have t3:(k == 3)=false:=by simpa using k3
     by_cases k4:k=4
     · subst k4
       have hp:=HL.out.2.2.2.1 rfl
       have hl:=HL.out.1 (.inl rfl)
       have hl0:0 < xs.length:=by omega
       have hl1:(0:Int) < xs.length:=by omega
       have hr2:=HROW.out.resolve_left (by omega)
       clear HROW hl
       obtain ⟨b0,o,rfl,hrow⟩:=hr2
       obtain ⟨hty,u0,u1,u2,u3,m0,m1,m2,m3,hnd⟩:=SlIn.item4 rfl hrow 0 hl0
       obtain ⟨fk,fn,fs',fa,fl,fc,rfl,rfl,rfl,rfl⟩:=NdIn.formE hty hnd
       have hR:=HT.out.2.2.2.2
       rw [val_item,valL_at K.E xs 0 hl0] at hR
       have HR:=Lib.hid hR
       have HM:=Lib.hid (And.intro m0 (And.intro m1 (And.intro m2 (And.intro m3 (And.intro hnd (And.intro hp HL.out.2.2.2.2.1))))))
       have HC:=Lib.hid (HCH.out 0 hl0)
       clear hR m0 m1 m2 m3 hnd hrow hty HCH hp
       obtain ⟨E0,hE0⟩:∃ y,xs[0]=y:=⟨_,rfl⟩
       rw [hE0] at HR HC HM
       go_enter Tryz.func161,Tryz.ntmps161
       go_upto_region 1 with fail
       rw [HW1.out,HX.out]
       clear HW1
       go_upto_region 10 with (first | (go_at_call 188;(with_reducible refine HCON.out.mono ?_);rintro e w2 ⟨rfl,hb2⟩;have HB2:=Lib.hid hb2;have q0:w2.cell? ⟨X,0,none⟩=some (.int .i64 4):=(HT.out.1.next hb2).blk.cell 0;have q1:w2.cell? ⟨X,1,none⟩=some (.int .i64 n):=(HT.out.1.next hb2).blk.cell 1;have q2:w2.cell? ⟨X,2,none⟩=some (.string nm):=(HT.out.1.next hb2).blk.cell 2;have q3:w2.cell? ⟨X,3,none⟩=some (.slice (some ⟨b0,o,none⟩) xs.length c):=(HT.out.1.next hb2).blk.cell 3;have HA2:=Lib.hid (HT.out.2.1.next hk hb2);clear hb2) | fail)
       have hold:Below w0.heap.size w0 w2:=HT.out.2.2.2.1.trans (HB2.out.mono HT.out.2.2.2.1.size)
       have kk:=keeps_below hold
       have k0:=kk _ _ _ HM.out.1
       have k1:=kk _ _ _ HM.out.2.1
       have k2':=kk _ _ _ HM.out.2.2.1
       have k3':=kk _ _ _ HM.out.2.2.2.1
       simp only [Nat.zero_mul,Nat.add_zero] at k0 k1 k2' k3'
       have HV:=Lib.hid (HC.out _ s r w2.drew HM.out.2.2.2.2.1 hold.drew (HA2.out.drew hk))
       have HT2:=Lib.hid ((HT.out.1.next HB2.out).next (Below.refl _ w2).drew)
       clear kk hold hlc hcm
       go_region_with (first
        | (go_at_call 161;(with_reducible refine HV.out.mono ?_);rintro e w3 ⟨r3,hk3,⟨v,s3,hr3,rfl,hf3,h3⟩ | ⟨st,wr3,s3,hr3,rfl,h3⟩⟩;rotate_left;(exact ⟨rfl,Ran.stop (by rw [← HR.out,hr3];rfl) ((HT.out.2.2.1.trans (Kr.below HB2.out)).drew.trans hk3) h3⟩);(have p2:w3.cell? ⟨X,2,none⟩=some (.string nm):=(HT2.out.kr hk hk3).blk.cell 2);(have H3:=Lib.hid (And.intro hk3 (And.intro hr3 (And.intro hf3 h3))));clear hk3 hr3 hf3 h3)
        | (go_at_call 162;(with_reducible refine (item_any K hk s3 r3 nm HM.out.2.2.2.2.2.2 HM.out.2.2.2.2.2.1 v w3 H3.out.2.2.2).mono ?_);rintro e w4 ⟨r4,hk4,⟨j,s4,hr4,rfl,hf4,h4⟩ | ⟨st,wr4,s4,hr4,rfl,h4⟩⟩;rotate_left;(exact ⟨rfl,Ran.stop (by rw [← HR.out,H3.out.2.1];show (itemR K.E nm v s3).bind _=_;rw [hr4];rfl) (((HT.out.2.2.1.trans (Kr.below HB2.out)).drew.trans H3.out.1).trans hk4) h4⟩);(have v4:w4.cell? ⟨(arrB K nm).1,j,none⟩=some (.int .i64 ((s4.arrs.getD (K.E.pl nm) []).getD j 0)):=by (obtain ⟨sv,ve,hm,-⟩:=h4;exact (arrs_at hm nm HM.out.2.2.2.2.2.1 j hf4).1));(have H4:=Lib.hid (And.intro hk4 (And.intro hr4 (And.intro hf4 h4))));clear hk4 hr4 hf4 h4))
       all_goals
        go_wp2_with fail
        go_ret
        refine Ran.go (val:=intV) (by rw [← HR.out,H3.out.2.1];show (itemR K.E nm v s3).bind _=_;rw [H4.out.2.1];rfl) (((HT.out.2.2.1.trans (Kr.below HB2.out)).drew.trans H3.out.1).trans H4.out.1) ?_ H4.out.2.2.2
        obtain ⟨sv,ve,hm,-⟩:=H4.out.2.2.2
        exact (arrs_at hm nm HM.out.2.2.2.2.2.1 j H4.out.2.2.1).2.2
     have t4:(k == 4)=false:=by simpa using k4
     have h5:5≤k:=by have:=HL.out.2.2.2.2.2.1;have:=HNE.out (by first | rfl | trivial);omega
     go_enter Tryz.func161,Tryz.ntmps161
     go_upto_region 1 with fail
     rw [HW1.out,HX.out]
     clear HW1
     go_upto_region 11 with (first | (go_at_call 188;(with_reducible refine HCON.out.mono ?_);rintro e w2 ⟨rfl,hb2⟩;have HB2:=Lib.hid hb2;have q0:w2.cell? ⟨X,0,none⟩=some (.int .i64 k):=(HT.out.1.next hb2).blk.cell 0;have q1:w2.cell? ⟨X,1,none⟩=some (.int .i64 n):=(HT.out.1.next hb2).blk.cell 1;have q2:w2.cell? ⟨X,2,none⟩=some (.string nm):=(HT.out.1.next hb2).blk.cell 2;have q3:w2.cell? ⟨X,3,none⟩=some (.slice a xs.length c):=(HT.out.1.next hb2).blk.cell 3;have HA2:=Lib.hid (HT.out.2.1.next hk hb2);clear hb2) | fail)
     have HV:=Lib.hid (HHOP.out h5 (by first | rfl | trivial) w2 HA2.out (HT.out.2.2.2.1.trans (HB2.out.mono HT.out.2.2.2.1.size)))
     go_wp2_with fail
     refine HV.out.mono ?_
     rintro e w3 ⟨r3,hk3,⟨v,s3,hr3,rfl,hf3,h3⟩ | ⟨st,wr3,s3,hr3,rfl,h3⟩⟩
     · have H3:=Lib.hid (And.intro hk3 (And.intro hr3 (And.intro hf3 h3)))
       clear hk3 hr3 hf3 h3
       go_wp2_with fail
       go_ret
       exact Ran.go (val:=intV) H3.out.2.1 ((HT.out.2.2.1.trans (Kr.below HB2.out)).trans H3.out.1) H3.out.2.2.1 H3.out.2.2.2
     · exact ⟨rfl,Ran.stop hr3 ((HT.out.2.2.1.trans (Kr.below HB2.out)).trans hk3) h3⟩
end Go.Proofs.YtmohmggnjldddaaGreatDoor
