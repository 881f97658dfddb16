/-
  The machine's stmt: proved is that each statement runs as the plain run does, loops among them.
-/
import Derived.Test.YtmohmggnjldddaaGreatDoorQRunC
namespace Go.Proofs.YtmohmggnjldddaaGreatDoor
open Go Go.RowKit Go.Maps
def asgR (E:Rv) (nm:ByteArray) (x:Nd) (s:Rn):Res Unit:=(valN E x s).bind fun v s=>(if barN x then stepR E s else .go () s).bind fun _ s=>.go () (putV E nm v s)
def astR (E:Rv) (x:Nd) (s:Rn):Res Unit:=(hldN E x s).bind fun b s=>(stepR E s).bind fun _ s=>if b then .go () (noteR false 0 true s) else .stop 3 4 (noteR false 0 false s)
set_option maxRecDepth 100000 in
set_option maxHeartbeats 4000000 in
theorem rassign_any (K:Me) (hk:K.ok) (w0:World) (hH:w0.heap.size≤K.H0) (nm:ByteArray) (hn:nm.size≤maxLen) (hp:K.E.pl nm < K.nv) (x:Nd) (us:List Value) (hty:x.ty=.E) (hok:okN K x) (s:Rn) (r:Option Nat) (w:World) (hin:NdIn w0 x us) (hw:Below w0.heap.size w0 w) (h:At K w s r) :
    Calls Tryz.prog 160 #[.pointer (some ⟨K.M,0,none⟩),.string nm,.agg us.toArray] w (Ran K unitV anyG r w (asgR K.E nm x s)):=by
 have hstp:=stepless_any K w0 x us hty hok hin
 have hval:=fun s r w=>value_any K hk w0 hH _ x (Nat.le_refl _) hty hok us s r w hin
 have hnd:=hin.len
 rw [hty] at hnd
 obtain ⟨v0,v1,v2,v3,rfl⟩:=len4 hnd
 obtain ⟨k,n,ss,a,len,c,rfl,rfl,rfl,rfl⟩:=NdIn.formE hty hin
 change Calls _ _ #[_,_,.agg #[.int .i64 k,.int .i64 n,.string ss,.slice a len c]] w _
 change ∀ w,_→Calls _ _ #[.agg #[.int .i64 k,.int .i64 n,.string ss,.slice a len c]] w _ at hstp
 change ∀ s r w,_→_→Calls _ _ #[_,.agg #[.int .i64 k,.int .i64 n,.string ss,.slice a len c]] w _ at hval
 have ht:=Tm.new h #[.int .i64 k,.int .i64 n,.string ss,.slice a len c] 142
 have h1:=h.alloc hk (.cells #[.int .i64 k,.int .i64 n,.string ss,.slice a len c] 142)
 obtain ⟨W1,hW1⟩:∃ W1,w.alloc (.cells #[.int .i64 k,.int .i64 n,.string ss,.slice a len c] 142)=W1:=⟨_,rfl⟩
 obtain ⟨X,hX⟩:∃ X,w.heap.size=X:=⟨_,rfl⟩
 have hkr:Kr K r r w W1:=by rw [← hW1];exact (Kr.refl K r w).alloc _
 rw [hW1] at ht h1
 rw [hX] at ht
 have hw1:Below w0.heap.size w0 W1:=hw.trans ((hkr.old hk h).mono hH)
 obtain ⟨R,hR⟩:∃ R,asgR K.E nm x s=R:=⟨_,rfl⟩
 rw [hR]
 unfold asgR at hR
 have x0:W1.cell? ⟨X,0,none⟩=some (.int .i64 k):=ht.blk.cell 0
 have x1:W1.cell? ⟨X,1,none⟩=some (.int .i64 n):=ht.blk.cell 1
 have x2:W1.cell? ⟨X,2,none⟩=some (.string ss):=ht.blk.cell 2
 have x3:W1.cell? ⟨X,3,none⟩=some (.slice a len c):=ht.blk.cell 3
 have HV:=Lib.hid (hval s r W1 hw1 h1)
 have HSTP:=Lib.hid hstp
 have HT:=Lib.hid (And.intro ht (And.intro h1 (And.intro hkr (And.intro hw1 hR))))
 have HW1:=Lib.hid hW1
 have HX:=Lib.hid hX
 have HN:=Lib.hid (And.intro hn hp)
 obtain ⟨Q,hQ⟩:∃ q,barN x=q:=⟨_,rfl⟩
 have HQ:=Lib.hid hQ
 rw [hQ] at HSTP HT
 clear hval hstp ht h1 hkr hw1 hR hW1 hX hn hp hin hnd hQ h hw hok hty
 go_enter Tryz.func160,Tryz.ntmps160
 go_upto_region 1 with fail
 rw [HW1.out,HX.out]
 clear HW1
 go_wp2_with fail
 refine HV.out.mono ?_
 rintro e w3 ⟨r3,hk3,⟨v,s3,hr3,rfl,hf3,h3⟩ | ⟨st,wr3,s3,hr3,rfl,h3⟩⟩
 · have hold:Below w0.heap.size w0 w3:=HT.out.2.2.2.1.trans ((hk3.old hk HT.out.2.1).mono hH)
   have ht3:=HT.out.1.kr hk hk3
   have y0:w3.cell? ⟨X,0,none⟩=some (.int .i64 k):=ht3.blk.cell 0
   have y1:w3.cell? ⟨X,1,none⟩=some (.int .i64 n):=ht3.blk.cell 1
   have y2:w3.cell? ⟨X,2,none⟩=some (.string ss):=ht3.blk.cell 2
   have y3:w3.cell? ⟨X,3,none⟩=some (.slice a len c):=ht3.blk.cell 3
   have HS:=Lib.hid (HSTP.out w3 hold)
   have hR:=HT.out.2.2.2.2
   rw [hr3] at hR
   have HR:Hid ((if Q=true then stepR K.E s3 else .go () s3).bind (fun _ s=>.go () (putV K.E nm v s))=R):=Lib.hid hR
   have H3:=Lib.hid (And.intro (HT.out.2.2.1.trans hk3) (And.intro hf3 h3))
   clear hold ht3 hR hr3 hf3 h3 hk3
   cases Q with
   | true =>
     go_wp2_with (first | (go_at_call 186;(with_reducible refine HS.out.mono ?_);rintro e w4 ⟨rfl,hb4⟩;have HB4:=Lib.hid hb4;clear hb4) | fail)
     have H4:=Lib.hid (H3.out.2.2.next hk HB4.out)
     have HP:=Lib.hid (step_any K hk s3 r3 w4 H4.out)
     refine HP.out.mono ?_
     rintro e w5 ⟨r5,hk5,⟨u,s5,hr5,rfl,-,h5⟩ | ⟨st,wr5,s5,hr5,rfl,h5⟩⟩
     · have HC:=Lib.hid (variable_any K hk s5 r5 nm HN.out.1 HN.out.2 w5 h5)
       obtain ⟨sv,ve,hm,he⟩:=h5
       obtain ⟨v1,v2,-⟩:=vars_at hm _ HN.out.2
       have H5:=Lib.hid (And.intro hk5 (And.intro hr5 (And.intro hm he)))
       clear hk5 hr5 hm he
       go_wp2_with (first | (go_at_call 187;(with_reducible refine HC.out.mono ?_);rintro e w6 ⟨rfl,rfl⟩) | fail)
       go_end0
       obtain ⟨hk5,hr5,hm,he⟩:=H5.out
       have hmd:=hm.next hk (Below.refl _ w5).drew
       refine Ran.go (val:=unitV) (a:=()) (r':=r5) (s':=putV K.E nm v s5) (by rw [← HR.out];simp only [if_true];rw [hr5];rfl) ((((H3.out.1.trans (Kr.below HB4.out)).trans hk5).drew).trans (Kr.onlyV ((Only.refl K.vb _).setCell (p:=⟨K.vb,K.E.pl nm,none⟩) rfl _))) trivial ⟨sv,ve,hmd.setV hk (K.E.pl nm) H3.out.2.1,he⟩
     · refine ⟨rfl,Ran.stop (by rw [← HR.out];simp only [if_true];rw [hr5];rfl) ((H3.out.1.trans (Kr.below HB4.out)).trans hk5) h5⟩
   | false =>
     go_wp2_with (first | (go_at_call 186;(with_reducible refine HS.out.mono ?_);rintro e w4 ⟨rfl,hb4⟩;have HB4:=Lib.hid hb4;clear hb4) | fail)
     have h5:=H3.out.2.2.next hk HB4.out
     have HC:=Lib.hid (variable_any K hk s3 r3 nm HN.out.1 HN.out.2 w4 h5)
     obtain ⟨sv,ve,hm,he⟩:=h5
     obtain ⟨v1,v2,-⟩:=vars_at hm _ HN.out.2
     have H5:=Lib.hid (And.intro hm he)
     clear hm he
     go_wp2_with (first | (go_at_call 187;(with_reducible refine HC.out.mono ?_);rintro e w6 ⟨rfl,rfl⟩) | fail)
     go_end0
     obtain ⟨hm,he⟩:=H5.out
     have hmd:=hm.next hk (Below.refl _ w4).drew
     refine Ran.go (val:=unitV) (a:=()) (r':=r3) (s':=putV K.E nm v s3) (by rw [← HR.out];rfl) (((H3.out.1.trans (Kr.below HB4.out)).drew).trans (Kr.onlyV ((Only.refl K.vb _).setCell (p:=⟨K.vb,K.E.pl nm,none⟩) rfl _))) trivial ⟨sv,ve,hmd.setV hk (K.E.pl nm) H3.out.2.1,he⟩
 · exact ⟨rfl,Ran.stop (by rw [← HT.out.2.2.2.2,hr3];rfl) (HT.out.2.2.1.trans hk3) h3⟩
set_option maxRecDepth 100000 in
set_option maxHeartbeats 4000000 in
theorem rassert_any (K:Me) (hk:K.ok) (w0:World) (hH:w0.heap.size≤K.H0) (x:Nd) (us:List Value) (hty:x.ty=.C) (hok:okN K x) (s:Rn) (r:Option Nat) (w:World) (hin:NdIn w0 x us) (hw:Below w0.heap.size w0 w) (h:At K w s r) :
    Calls Tryz.prog 164 #[.pointer (some ⟨K.M,0,none⟩),.agg us.toArray] w (Ran K unitV anyG r w (astR K.E x s)):=by
 have hval:=fun s r w=>holds_any K hk w0 hH _ x (Nat.le_refl _) hty hok us s r w hin
 have hnd:=hin.len
 rw [hty] at hnd
 obtain ⟨v0,v1,v2,v3,rfl⟩:=len4 hnd
 obtain ⟨k,n,a,len,c,a2,len2,c2,rfl,rfl,rfl,rfl⟩:=NdIn.formC hty hin
 change Calls _ _ #[_,.agg #[.int .i64 k,.int .i64 n,.slice a len c,.slice a2 len2 c2]] w _
 change ∀ s r w,_→_→Calls _ _ #[_,.agg #[.int .i64 k,.int .i64 n,.slice a len c,.slice a2 len2 c2]] w _ at hval
 have ht:=Tm.new h #[.int .i64 k,.int .i64 n,.slice a len c,.slice a2 len2 c2] 150
 have h1:=h.alloc hk (.cells #[.int .i64 k,.int .i64 n,.slice a len c,.slice a2 len2 c2] 150)
 obtain ⟨W1,hW1⟩:∃ W1,w.alloc (.cells #[.int .i64 k,.int .i64 n,.slice a len c,.slice a2 len2 c2] 150)=W1:=⟨_,rfl⟩
 obtain ⟨X,hX⟩:∃ X,w.heap.size=X:=⟨_,rfl⟩
 have hkr:Kr K r r w W1:=by rw [← hW1];exact (Kr.refl K r w).alloc _
 rw [hW1] at ht h1
 rw [hX] at ht
 have hw1:Below w0.heap.size w0 W1:=hw.trans ((hkr.old hk h).mono hH)
 obtain ⟨R,hR⟩:∃ R,astR K.E x s=R:=⟨_,rfl⟩
 rw [hR]
 unfold astR at hR
 have x0:W1.cell? ⟨X,0,none⟩=some (.int .i64 k):=ht.blk.cell 0
 have x1:W1.cell? ⟨X,1,none⟩=some (.int .i64 n):=ht.blk.cell 1
 have x2:W1.cell? ⟨X,2,none⟩=some (.slice a len c):=ht.blk.cell 2
 have x3:W1.cell? ⟨X,3,none⟩=some (.slice a2 len2 c2):=ht.blk.cell 3
 have HV:=Lib.hid (hval s r W1 hw1 h1)
 have HT:=Lib.hid (And.intro ht (And.intro h1 (And.intro hkr (And.intro hw1 hR))))
 have HW1:=Lib.hid hW1
 have HX:=Lib.hid hX
 clear hval ht h1 hkr hw1 hR hW1 hX hin hnd h hw hok hty
 go_enter Tryz.func164,Tryz.ntmps164
 go_upto_region 1 with fail
 rw [HW1.out,HX.out]
 clear HW1
 go_wp2_with fail
 refine HV.out.mono ?_
 rintro e w3 ⟨r3,hk3,⟨v,s3,hr3,rfl,-,h3⟩ | ⟨st,wr3,s3,hr3,rfl,h3⟩⟩
 · have hR:=HT.out.2.2.2.2
   rw [hr3] at hR
   have HR:Hid ((stepR K.E s3).bind (fun _ s=>if v=true then .go () (noteR false 0 true s) else .stop 3 4 (noteR false 0 false s))=R):=Lib.hid hR
   have HP:=Lib.hid (step_any K hk s3 r3 w3 h3)
   have hfew:s3.evs.length≤s3.steps:=by obtain ⟨sv,ve,hm,-⟩:=h3;exact hm.few
   have HFEW:=Lib.hid hfew
   have H3:=Lib.hid (And.intro (HT.out.2.2.1.trans hk3) h3)
   clear hR hr3 h3 hk3 hfew
   go_wp2_with fail
   refine HP.out.mono ?_
   rintro e w4 ⟨r4,hk4,⟨u,s4,hr4,rfl,-,h4⟩ | ⟨st,wr4,s4,hr4,rfl,h4⟩⟩
   · have HNT:=Lib.hid (note_any K hk s4 r4 false 0 v (by rw [(step_go hr4).1];exact Nat.lt_succ_of_le HFEW.out) w4 h4)
     have hR:=HR.out
     rw [hr4] at hR
     have HR2:Hid ((if v=true then Res.go () (noteR false 0 true s4) else .stop 3 4 (noteR false 0 false s4))=R):=Lib.hid hR
     have H4:=Lib.hid (H3.out.1.trans hk4)
     clear hk4 hr4 h4 hR
     cases v with
     | true =>
       go_wp2_with (first | (go_at_call 192;(with_reducible refine HNT.out.mono ?_);rintro e w5 ⟨rfl,r5,hk5,h5⟩;have H5:=Lib.hid (And.intro hk5 h5);clear hk5 h5) | fail)
       go_end0
       exact Ran.go (val:=unitV) (a:=()) HR2.out.symm (H4.out.trans H5.out.1) trivial H5.out.2
     | false =>
       go_wp2_with (first | (go_at_call 192;(with_reducible refine HNT.out.mono ?_);rintro e w5 ⟨rfl,r5,hk5,h5⟩;have H5:=Lib.hid (And.intro hk5 h5);clear hk5 h5) | fail)
       refine (fail_any _ _ _).mono ?_
       rintro e w6 ⟨rfl,rfl⟩
       exact ⟨rfl,Ran.stop HR2.out.symm (H4.out.trans H5.out.1) H5.out.2⟩
   · exact ⟨rfl,Ran.stop (by rw [← HR.out,hr4];rfl) (H3.out.1.trans hk4) h4⟩
 · exact ⟨rfl,Ran.stop (by rw [← HT.out.2.2.2.2,hr3];rfl) (HT.out.2.2.1.trans hk3) h3⟩
def RSt (K:Me) (w0:World) (x:Nd):Prop:=∀ us s r w,NdIn w0 x us→Below w0.heap.size w0 w→At K w s r→Calls Tryz.prog 122 #[.pointer (some ⟨K.M,0,none⟩),.agg us.toArray] w (Ran K unitV anyG r w (stN K.E x s))
def RBlk (K:Me) (w0:World) (l:List Nd):Prop:=∀ v s r w,SlIn w0 .S l v→Below w0.heap.size w0 w→At K w s r→Calls Tryz.prog 77 #[.pointer (some ⟨K.M,0,none⟩),v] w (Ran K unitV anyG r w (stL K.E l s))
theorem stL_cons (E:Rv) (x:Nd) (l:List Nd) (s:Rn):stL E (x :: l) s=(stN E x s).bind fun _ s=>stL E l s:=by conv=>lhs;unfold stL
set_option maxRecDepth 100000 in
set_option maxHeartbeats 4000000 in
theorem block_any (K:Me) (hk:K.ok) (w0:World) (hH:w0.heap.size≤K.H0) (l:List Nd) (hst:∀ i (hi:i < l.length),RSt K w0 l[i]):RBlk K w0 l:=by
 intro v s r w hl hw h
 obtain ⟨a,c,rfl,hlc,hcm,hrow⟩:=hl
 have hlen:l.length≤maxLen:=Nat.le_trans hlc hcm
 obtain ⟨R,hR⟩:∃ R,stL K.E l s=R:=⟨_,rfl⟩
 rw [hR]
 have HROW:=Lib.hid hrow
 have HST:=Lib.hid hst
 have HH:=Lib.hid (And.intro hw (And.intro h hR))
 clear hrow hst hw h hR hlc hcm
 go_enter Tryz.func77,Tryz.ntmps77
 go_wp2_with fail
 go_loopw [8] (fun x wr=>∃ (i:Nat) (s':Rn) (r':Option Nat),x=.int .i64 i∧i≤l.length∧stL K.E (l.drop i) s'=R∧Kr K r r' w wr∧At K wr s' r') (fun x _=>l.length - (intOf x).toNat)
 case atStart=>exact ⟨0,s,r,rfl,by omega,by rw [List.drop_zero];exact HH.out.2.2,Kr.refl K r w,HH.out.2.1⟩
 case round =>
  obtain ⟨i,s1,r1,rfl,hi,hR1,hkr1,h1⟩:=hrel
  by_cases hlt:i < l.length
  · have hbi:(i:Int)+1≤9223372036854775807:=by unfold maxLen at hlen;omega
    have hr2:=HROW.out.resolve_left (by omega)
    obtain ⟨b,o,rfl,hrow⟩:=hr2
    have hold:Below w0.heap.size w0 wr:=HH.out.1.trans ((hkr1.old hk HH.out.2.1).mono hH)
    obtain ⟨hty,u0,u1,u2,u3,u4,u5,m0,m1,m2,m3,m4,m5,hnd⟩:=SlIn.item6 rfl hrow i hlt
    obtain ⟨fk,fs,fa,fl,fc,fa2,fl2,fc2,fa3,fl3,fc3,fa4,fl4,fc4,rfl,rfl,rfl,rfl,rfl,rfl⟩:=NdIn.formS hty hnd
    have kk:=keeps_below hold
    have k0:=kk _ _ _ m0
    have k1:=kk _ _ _ m1
    have k2:=kk _ _ _ m2
    have k3:=kk _ _ _ m3
    have k4:=kk _ _ _ m4
    have k5:=kk _ _ _ m5
    have HC:=Lib.hid (HST.out i hlt _ s1 r1 (wr.alloc (.cells #[.int .i64 fk,.string fs,.slice fa fl fc,.slice fa2 fl2 fc2,.slice fa3 fl3 fc3,.slice fa4 fl4 fc4] 57)) hnd (hold.alloc hold.size _) (h1.alloc hk _))
    rw [List.drop_eq_getElem_cons hlt,stL_cons] at hR1
    have H1:=Lib.hid (And.intro hR1 (And.intro hkr1 h1))
    clear m0 m1 m2 m3 m4 m5 kk hold hnd hrow hty hR1 hkr1 h1 HROW hlen
    go_wp2_with fail
    refine HC.out.mono ?_
    rintro e w3 ⟨r3,hk3,⟨u,s3,hr3,rfl,-,h3⟩ | ⟨st,wr3,s3,hr3,rfl,h3⟩⟩
    · obtain ⟨hR1,hkr1,h1⟩:=H1.out
      rw [hr3] at hR1
      change stL K.E (l.drop (i+1)) s3=R at hR1
      have H3:=Lib.hid (And.intro hR1 (And.intro ((hkr1.alloc _).trans hk3) h3))
      clear hR1 hkr1 h1 hk3 hr3 h3
      go_wp2_with fail
      go_roundw
      case rel=>exact ⟨i+1,s3,r3,by go_num,by omega,H3.out.1,H3.out.2.1,H3.out.2.2⟩
      case measure=>simp [intOf];omega
    · obtain ⟨hR1,hkr1,h1⟩:=H1.out
      refine ⟨rfl,Ran.stop (by rw [← hR1,hr3];rfl) ((hkr1.alloc _).trans hk3) h3⟩
  · obtain rfl:i=l.length:=by omega
    rw [List.drop_length] at hR1
    have H1:=Lib.hid (And.intro hR1 (And.intro hkr1 h1))
    clear hR1 hkr1 h1
    go_wp2_with fail
    go_end0
    exact Ran.go (val:=unitV) (a:=()) (by rw [← H1.out.1];unfold stL;rfl) H1.out.2.1 trivial H1.out.2.2
mutual
theorem cnd_of {K:Me}:∀ (x:Nd),x.ty=.C→okN K x→cndN x
 | .mk ty k n nm xs cs ts es,hty,h=>by
   simp only [Nd.ty] at hty
   subst hty
   unfold okN at h
   obtain ⟨⟨hk1,hk6,-,hl4,hl5⟩,-,hc,-⟩:=h
   unfold cndN partsR
   exact ⟨hk6,⟨hl4,hl5⟩,cndL_of cs hc⟩
theorem cndL_of {K:Me}:∀ (l:List Nd),okL K .C l→cndL l
 | [],_=>by unfold cndL;trivial
 | x :: r,h=>by
   unfold okL at h
   unfold cndL
   exact ⟨cnd_of x h.1 h.2.1,cndL_of r h.2.2⟩
end
theorem st_asg (E:Rv) (nm:ByteArray) (q:Bool) (fs:List (Rn→Res Int)) (hs:List (Rn→Res Bool)) (t e:Rn→Res Unit) (s:Rn):stK E 1 nm q fs hs t e s=(fnR fs 0 s).bind fun v s=>(if q then stepR E s else .go () s).bind fun _ s=>.go () (putV E nm v s):=rfl
theorem st_sto (E:Rv) (nm:ByteArray) (q:Bool) (fs:List (Rn→Res Int)) (hs:List (Rn→Res Bool)) (t e:Rn→Res Unit) (s:Rn):stK E 2 nm q fs hs t e s=(fnR fs 0 s).bind fun i s=>(fnR fs 1 s).bind fun v s=>(itemR E nm i s).bind fun j s=>.go () (putA E nm j v s):=rfl
theorem st_if (E:Rv) (nm:ByteArray) (q:Bool) (fs:List (Rn→Res Int)) (hs:List (Rn→Res Bool)) (t e:Rn→Res Unit) (s:Rn):stK E 3 nm q fs hs t e s=(hnR hs 0 s).bind fun b s=>if b then t s else e s:=rfl
theorem st_while (E:Rv) (nm:ByteArray) (q:Bool) (fs:List (Rn→Res Int)) (hs:List (Rn→Res Bool)) (t e:Rn→Res Unit) (s:Rn):stK E 4 nm q fs hs t e s=loopR (hnR hs 0) t (E.most+1 - s.steps) s:=rfl
theorem st_assert (E:Rv) (nm:ByteArray) (q:Bool) (fs:List (Rn→Res Int)) (hs:List (Rn→Res Bool)) (t e:Rn→Res Unit) (s:Rn):stK E 5 nm q fs hs t e s=(hnR hs 0 s).bind fun b s=>(stepR E s).bind fun _ s=>if b then .go () (noteR false 0 true s) else .stop 3 4 (noteR false 0 false s):=rfl
theorem st_assume (E:Rv) (nm:ByteArray) (q:Bool) (fs:List (Rn→Res Int)) (hs:List (Rn→Res Bool)) (t e:Rn→Res Unit) (s:Rn):stK E 6 nm q fs hs t e s=(hnR hs 0 s).bind fun b s=>if b then .go () s else .stop 2 0 s:=rfl
theorem st_skip (E:Rv) (nm:ByteArray) (q:Bool) (fs:List (Rn→Res Int)) (hs:List (Rn→Res Bool)) (t e:Rn→Res Unit) (s:Rn):stK E 7 nm q fs hs t e s=stepR E s:=rfl
theorem loopR_succ (h:Rn→Res Bool) (b:Rn→Res Unit) (n:Nat) (s:Rn):loopR h b (n+1) s=(h s).bind fun c s=>if c then (b s).bind fun _ s=>loopR h b n s else .go () s:=rfl
def stepsOf (K:Me) (w:World):Nat:=(intOf ((w.cell? ⟨K.M,5,none⟩).getD undef)).toNat
theorem stepsOf_at {K:Me} {w:World} {s:Rn} {r:Option Nat} (h:At K w s r):stepsOf K w=s.steps:=by
 obtain ⟨sv,ve,hm,-⟩:=h
 have c5:w.cell? ⟨K.M,5,none⟩=some (.int .i64 s.steps):=hm.mach.cell 5
 unfold stepsOf
 rw [c5]
 simp [intOf]
theorem At.most {K:Me} {w:World} {s:Rn} {r:Option Nat} (h:At K w s r):s.steps≤K.E.most:=by
 obtain ⟨sv,ve,hm,-⟩:=h
 exact hm.steps
set_option maxRecDepth 100000 in
set_option maxHeartbeats 16000000 in
theorem stmt_any (K:Me) (hk:K.ok) (w0:World) (hH:w0.heap.size≤K.H0):∀ (N:Nat) (x:Nd),SizeOf.sizeOf x≤N→x.ty=.S→okN K x→RSt K w0 x:=by
 intro N
 induction N with
 | zero =>
   intro x hN
   obtain ⟨ty,k,n,nm,xs,cs,ts,es⟩:=x
   simp only [Nd.mk.sizeOf_spec] at hN
   omega
 | succ N ih =>
   intro x hN hty hok us s r w hin hw h
   obtain ⟨ty,k,n,nm,xs,cs,ts,es⟩:=x
   simp only [Nd.mk.sizeOf_spec] at hN
   simp only [Nd.ty] at hty
   subst hty
   unfold okN at hok
   obtain ⟨⟨hk1,hk7,hl1,hl2,hl3,hp1,hp2⟩,hgx,hgc,hgt,hge⟩:=hok
   have hbt:RBlk K w0 ts:=block_any K hk w0 hH ts fun i hi=>ih ts[i] (by have:=List.sizeOf_lt_of_mem (List.getElem_mem (l:=ts) (n:=i) hi);omega) (okL_at hgt i hi).1 (okL_at hgt i hi).2
   have hbe:RBlk K w0 es:=block_any K hk w0 hH es fun i hi=>ih es[i] (by have:=List.sizeOf_lt_of_mem (List.getElem_mem (l:=es) (n:=i) hi);omega) (okL_at hge i hi).1 (okL_at hge i hi).2
   have hhl:=hldL_at K.E cs
   have hvl:=valL_at K.E xs
   obtain ⟨R,hR⟩:∃ R,stN K.E (.mk .S k n nm xs cs ts es) s=R:=⟨_,rfl⟩
   rw [hR]
   unfold stN at hR
   unfold NdIn at hin
   obtain ⟨hz,-,-,hnm,vx,vc,vt,ve,rfl,hxs,hcs,hts,hes⟩:=hin
   clear ih hN hgt hge hz
   have HTS:=Lib.hid (show SlIn w0 .S ts vt from hts)
   have HES:=Lib.hid (show SlIn w0 .S es ve from hes)
   obtain ⟨a,c,rfl,hlc,hcm,hrow⟩:=hxs
   obtain ⟨a2,c2,rfl,hlc2,hcm2,hrow2⟩:=hcs
   obtain ⟨a3,c3,rfl,-,-,-⟩:=hts
   obtain ⟨a4,c4,rfl,-,-,-⟩:=hes
   change Calls _ _ #[_,.agg #[.int .i64 k,.string nm,.slice a xs.length c,.slice a2 cs.length c2,.slice a3 ts.length c3,.slice a4 es.length c4]] w _
   have ht:=Tm.new h #[.int .i64 k,.string nm,.slice a xs.length c,.slice a2 cs.length c2,.slice a3 ts.length c3,.slice a4 es.length c4] 57
   have h1:=h.alloc hk (.cells #[.int .i64 k,.string nm,.slice a xs.length c,.slice a2 cs.length c2,.slice a3 ts.length c3,.slice a4 es.length c4] 57)
   obtain ⟨W1,hW1⟩:∃ W1,w.alloc (.cells #[.int .i64 k,.string nm,.slice a xs.length c,.slice a2 cs.length c2,.slice a3 ts.length c3,.slice a4 es.length c4] 57)=W1:=⟨_,rfl⟩
   obtain ⟨X,hX⟩:∃ X,w.heap.size=X:=⟨_,rfl⟩
   have hkr:Kr K r r w W1:=by rw [← hW1];exact (Kr.refl K r w).alloc _
   rw [hW1] at ht h1
   rw [hX] at ht
   have hw1:Below w0.heap.size w0 W1:=hw.trans ((hkr.old hk h).mono hH)
   have x0:W1.cell? ⟨X,0,none⟩=some (.int .i64 k):=ht.blk.cell 0
   have x1:W1.cell? ⟨X,1,none⟩=some (.string nm):=ht.blk.cell 1
   have x2:W1.cell? ⟨X,2,none⟩=some (.slice a xs.length c):=ht.blk.cell 2
   have x3:W1.cell? ⟨X,3,none⟩=some (.slice a2 cs.length c2):=ht.blk.cell 3
   have x4:W1.cell? ⟨X,4,none⟩=some (.slice a3 ts.length c3):=ht.blk.cell 4
   have x5:W1.cell? ⟨X,5,none⟩=some (.slice a4 es.length c4):=ht.blk.cell 5
   have HT:=Lib.hid (And.intro ht (And.intro h1 (And.intro hkr (And.intro hw1 hR))));clear ht h1 hkr hw1 hR
   have HW1:=Lib.hid hW1;clear hW1
   have HX:=Lib.hid hX;clear hX
   have HL:=Lib.hid (And.intro hl1 (And.intro hl2 (And.intro hl3 (And.intro hp1 (And.intro hp2 (And.intro hnm (And.intro hk1 hk7)))))));clear hl1 hl2 hl3 hp1 hp2 hnm hk1 hk7
   have HROW:=Lib.hid hrow;clear hrow
   have HROW2:=Lib.hid hrow2;clear hrow2
   have HGX:=Lib.hid hgx;clear hgx
   have HGC:=Lib.hid hgc;clear hgc
   have HBT:=Lib.hid hbt;clear hbt
   have HBE:=Lib.hid hbe;clear hbe
   have HHL:=Lib.hid hhl;clear hhl
   have HVL:=Lib.hid hvl;clear hvl
   have HWH:=Lib.hid (And.intro hw h)
   clear hw h hlc hcm hlc2 hcm2
   by_cases k1:k=1
   · subst k1
     have hl:=HL.out.1 rfl
     have hl0:0 < xs.length:=by omega
     have hli:(0:Int) < xs.length:=by omega
     have hbar:barL xs=barN xs[0]:=by
      match xs,hl with
      | [x0],_=>rfl
     have hr2:=HROW.out.resolve_left (by omega)
     clear HROW hl HROW2 HGC HHL HTS HES HBT HBE
     obtain ⟨b0,o,rfl,hrow⟩:=hr2
     obtain ⟨hty,u0,u1,u2,u3,m0,m1,m2,m3,hnd⟩:=SlIn.item4 rfl hrow 0 hl0
     obtain ⟨fk,fn,fs',fa,fl,fc,rfl,rfl,rfl,rfl⟩:=NdIn.formE hty hnd
     have hg:=okL_at HGX.out 0 hl0
     have kk:=keeps_below HT.out.2.2.2.1
     have y0:=kk _ _ _ m0
     have y1:=kk _ _ _ m1
     have y2:=kk _ _ _ m2
     have y3:=kk _ _ _ m3
     simp only [Nat.zero_mul,Nat.add_zero] at y0 y1 y2 y3
     have hR:asgR K.E nm xs[0] s=R:=by rw [← HT.out.2.2.2.2,st_asg,HVL.out 0 hl0,hbar];rfl
     have HC:=Lib.hid (rassign_any K hk w0 hH nm HL.out.2.2.2.2.2.1 (HL.out.2.2.2.1 rfl) _ _ hg.1 hg.2 s r W1.drew hnd HT.out.2.2.2.1.drew (HT.out.2.1.drew hk))
     rw [hR] at HC
     clear m0 m1 m2 m3 hnd hrow hty kk hg hR hbar HVL HGX
     go_enter Tryz.func122,Tryz.ntmps122
     go_upto_region 1 with fail
     rw [HW1.out,HX.out]
     clear HW1
     go_upto_region 3 with fail
     go_region_with (go_at_call 160;(with_reducible refine HC.out.mono ?_);rintro e w3 ⟨r3,hk3,⟨u,s3,hr3,rfl,-,h3⟩ | ⟨st,wr3,s3,hr3,rfl,h3⟩⟩;rotate_left;(exact ⟨rfl,Ran.stop hr3 (HT.out.2.2.1.drew.trans hk3) h3⟩);(have H3:=Lib.hid (And.intro hk3 (And.intro hr3 h3)));clear hk3 hr3 h3)
     all_goals
      go_wp2_with fail
      go_end0
      exact Ran.go (val:=unitV) (a:=()) H3.out.2.1 (HT.out.2.2.1.drew.trans H3.out.1) trivial H3.out.2.2
   have t1:(k == 1)=false:=by simpa using k1
   by_cases k2:k=2
   · subst k2
     have hl:=HL.out.2.1 rfl
     have hl0:0 < xs.length:=by omega
     have hli:(0:Int) < xs.length:=by omega
     have hl2:1 < xs.length:=by omega
     have hlj:(1:Int) < xs.length:=by omega
     have hr2:=HROW.out.resolve_left (by omega)
     clear HROW hl HROW2 HGC HHL HTS HES HBT HBE
     obtain ⟨b0,o,rfl,hrow⟩:=hr2
     obtain ⟨hty,u0,u1,u2,u3,m0,m1,m2,m3,hnd⟩:=SlIn.item4 rfl hrow 0 hl0
     obtain ⟨fk,fn,fs',fa,fl,fc,rfl,rfl,rfl,rfl⟩:=NdIn.formE hty hnd
     obtain ⟨jty,u0,u1,u2,u3,j0,j1,j2,j3,jnd⟩:=SlIn.item4 rfl hrow 1 hl2
     obtain ⟨gk,gn,gs',ga,gl,gc,rfl,rfl,rfl,rfl⟩:=NdIn.formE jty jnd
     have hg:=okL_at HGX.out 0 hl0
     have hg2:=okL_at HGX.out 1 hl2
     have hR:=HT.out.2.2.2.2
     rw [st_sto,HVL.out 0 hl0,HVL.out 1 hl2] at hR
     have HR:=Lib.hid hR
     have kk:=keeps_below HT.out.2.2.2.1
     have y0:=kk _ _ _ m0
     have y1:=kk _ _ _ m1
     have y2:=kk _ _ _ m2
     have y3:=kk _ _ _ m3
     have z0:=kk _ _ _ j0
     have z1:=kk _ _ _ j1
     have z2:=kk _ _ _ j2
     have z3:=kk _ _ _ j3
     simp only [Nat.zero_mul,Nat.add_zero] at y0 y1 y2 y3
     simp only [Nat.one_mul] at z0 z1 z2 z3
     have HC:=Lib.hid (value_any K hk w0 hH _ _ (Nat.le_refl _) hg.1 hg.2 _ s r W1.drew hnd HT.out.2.2.2.1.drew (HT.out.2.1.drew hk))
     have HD:=Lib.hid (value_any K hk w0 hH _ _ (Nat.le_refl _) hg2.1 hg2.2)
     have HJ:=Lib.hid (And.intro j0 (And.intro j1 (And.intro j2 (And.intro j3 jnd))))
     have HT2:=Lib.hid (HT.out.1.next (Below.refl _ W1).drew)
     have HNM:=Lib.hid (And.intro HL.out.2.2.2.2.2.1 (HL.out.2.2.2.2.1 rfl))
     obtain ⟨E0,hE0⟩:∃ y,xs[0]=y:=⟨_,rfl⟩
     obtain ⟨E1,hE1⟩:∃ y,xs[1]=y:=⟨_,rfl⟩
     rw [hE0] at HR HC
     rw [hE1] at HR HD HJ
     clear hR m0 m1 m2 m3 hnd hrow hty kk j0 j1 j2 j3 jnd jty HVL HGX hg hg2 hE0 hE1 HL
     go_enter Tryz.func122,Tryz.ntmps122
     go_upto_region 1 with fail
     rw [HW1.out,HX.out]
     clear HW1
     go_upto_region 5 with fail
     go_region_with (first
      | (go_at_call 161;(with_reducible refine HC.out.mono ?_);rintro e w3 ⟨r3,hk3,⟨v,s3,hr3,rfl,hf3,h3⟩ | ⟨st,wr3,s3,hr3,rfl,h3⟩⟩;rotate_left;(exact ⟨rfl,Ran.stop (by rw [← HR.out,hr3];rfl) (HT.out.2.2.1.drew.trans hk3) h3⟩);(have hold:Below w0.heap.size w0 w3:=HT.out.2.2.2.1.drew.trans ((hk3.old hk (HT.out.2.1.drew hk)).mono hH));(have k0:=keeps_below hold _ _ _ HJ.out.1);(have k1:=keeps_below hold _ _ _ HJ.out.2.1);(have k2:=keeps_below hold _ _ _ HJ.out.2.2.1);(have k3:=keeps_below hold _ _ _ HJ.out.2.2.2.1);(simp only [Nat.one_mul] at k0 k1 k2 k3);(have q2:w3.cell? ⟨X,2,none⟩=some (.slice (some ⟨b0,o,none⟩) xs.length c):=(HT2.out.kr hk hk3).blk.cell 2);(have HD3:=Lib.hid (HD.out _ s3 r3 w3 HJ.out.2.2.2.2 hold h3));(have HT3:=Lib.hid (HT2.out.kr hk hk3));(have H3:=Lib.hid (And.intro hk3 (And.intro hr3 (And.intro hf3 h3))));clear hk3 hr3 hf3 h3 hold)
      | (go_at_call 161;(with_reducible refine HD3.out.mono ?_);rintro e w4 ⟨r4,hk4,⟨v4,s4,hr4,rfl,hf4,h4⟩ | ⟨st,wr4,s4,hr4,rfl,h4⟩⟩;rotate_left;(exact ⟨rfl,Ran.stop (by rw [← HR.out,H3.out.2.1];show (valN K.E E1 s3).bind _=_;rw [hr4];rfl) ((HT.out.2.2.1.drew.trans H3.out.1).trans hk4) h4⟩);(have HT4:=Lib.hid (HT3.out.kr hk hk4));(have H4:=Lib.hid (And.intro hk4 (And.intro hr4 (And.intro hf4 h4))));clear hk4 hr4 hf4 h4))
     all_goals
      have p1:w4.cell? ⟨X,1,none⟩=some (.string nm):=HT4.out.blk.cell 1
      have HI:=Lib.hid (item_any K hk s4 r4 nm HNM.out.1 HNM.out.2 v w4 H4.out.2.2.2)
      go_wp2_with fail
      refine HI.out.mono ?_
      rintro e w5 ⟨r5,hk5,⟨j,s5,hr5,rfl,hj5,h5⟩ | ⟨st,wr5,s5,hr5,rfl,h5⟩⟩
      · obtain ⟨sv5,ve5,hm5,he5⟩:=h5
        obtain ⟨v5,f5,-⟩:=arrs_at hm5 nm HNM.out.2 j hj5
        have H5:=Lib.hid (And.intro hk5 (And.intro hr5 (And.intro hm5 he5)))
        clear hk5 hr5 hm5 he5
        go_wp2_with fail
        go_end0
        obtain ⟨hk5,hr5,hm5,he5⟩:=H5.out
        have hab:arrB K nm=K.ab[K.E.pl nm]'HNM.out.2:=by unfold arrB;rw [List.getD_eq_getElem?_getD,List.getElem?_eq_getElem HNM.out.2];rfl
        rw [hab]
        refine Ran.go (val:=unitV) (a:=()) (r':=r5) (s':=putA K.E nm j v4 s5) ?_ ((((HT.out.2.2.1.drew.trans H3.out.1).trans H4.out.1).trans hk5).trans (Kr.onlyA (List.getElem_mem HNM.out.2) ((Only.refl _ w5).setCell (p:=⟨(K.ab[K.E.pl nm]'HNM.out.2).1,j,none⟩) rfl _))) trivial ⟨sv5,ve5,hm5.setA hk (K.E.pl nm) HNM.out.2 j H4.out.2.2.1,he5⟩
        rw [← HR.out,H3.out.2.1]
        show (valN K.E E1 s3).bind _=_
        rw [H4.out.2.1]
        show (itemR K.E nm v s4).bind _=_
        rw [hr5]
        rfl
      · refine ⟨rfl,Ran.stop ?_ (((HT.out.2.2.1.drew.trans H3.out.1).trans H4.out.1).trans hk5) h5⟩
        rw [← HR.out,H3.out.2.1]
        show (valN K.E E1 s3).bind _=_
        rw [H4.out.2.1]
        show (itemR K.E nm v s4).bind _=_
        rw [hr5]
        rfl
   have t2:(k == 2)=false:=by simpa using k2
   by_cases k3:k=3
   · subst k3
     have hl:=HL.out.2.2.1 (by omega)
     have hl0:0 < cs.length:=by omega
     have hli:(0:Int) < cs.length:=by omega
     have hr2:=HROW2.out.resolve_left (by omega)
     clear HROW2 hl HROW HGX HVL
     obtain ⟨b0,o,rfl,hrow⟩:=hr2
     obtain ⟨hty,u0,u1,u2,u3,m0,m1,m2,m3,hnd⟩:=SlIn.item4 rfl hrow 0 hl0
     obtain ⟨fk,fn,fa,fl,fc,fa2,fl2,fc2,rfl,rfl,rfl,rfl⟩:=NdIn.formC hty hnd
     have hg:=okL_at HGC.out 0 hl0
     have kk:=keeps_below HT.out.2.2.2.1
     have y0:=kk _ _ _ m0
     have y1:=kk _ _ _ m1
     have y2:=kk _ _ _ m2
     have y3:=kk _ _ _ m3
     simp only [Nat.zero_mul,Nat.add_zero] at y0 y1 y2 y3
     have hR:=HT.out.2.2.2.2
     rw [st_if,HHL.out 0 hl0] at hR
     have HR:=Lib.hid hR
     clear hR
     have HC:=Lib.hid (holds_any K hk w0 hH _ _ (Nat.le_refl _) hg.1 hg.2 _ s r W1 hnd HT.out.2.2.2.1 HT.out.2.1)
     clear m0 m1 m2 m3 hnd hrow hty kk hg HHL HGC
     go_enter Tryz.func122,Tryz.ntmps122
     go_upto_region 1 with fail
     rw [HW1.out,HX.out]
     clear HW1
     go_wp2_with fail
     refine HC.out.mono ?_
     rintro e w3 ⟨r3,hk3,⟨v,s3,hr3,rfl,-,h3⟩ | ⟨st,wr3,s3,hr3,rfl,h3⟩⟩
     · have HOLD:=Lib.hid (HT.out.2.2.2.1.trans ((hk3.old hk HT.out.2.1).mono hH))
       have H3:=Lib.hid (And.intro hk3 (And.intro hr3 h3))
       clear hk3 hr3 h3
       cases v with
       | true =>
         have q4:w3.cell? ⟨X,4,none⟩=some (.slice a3 ts.length c3):=(HT.out.1.kr hk H3.out.1).blk.cell 4
         have HBC:=Lib.hid (HBT.out _ s3 r3 w3 (HTS.out.keep (fun _ _ _ h=>h)) HOLD.out H3.out.2.2)
         have hR2:stL K.E ts s3=R:=by rw [← HR.out,H3.out.2.1];rfl
         rw [hR2] at HBC
         clear hR2
         go_wp2_with fail
         refine HBC.out.mono ?_
         rintro e w4 ⟨r4,hk4,⟨u,s4,hr4,rfl,-,h4⟩ | ⟨st,wr4,s4,hr4,rfl,h4⟩⟩
         · have H4:=Lib.hid (And.intro hk4 (And.intro hr4 h4))
           clear hk4 hr4 h4
           go_wp2_with fail
           go_end0
           exact Ran.go (val:=unitV) (a:=()) H4.out.2.1 ((HT.out.2.2.1.trans H3.out.1).trans H4.out.1) trivial H4.out.2.2
         · exact ⟨rfl,Ran.stop hr4 ((HT.out.2.2.1.trans H3.out.1).trans hk4) h4⟩
       | false =>
         have q5:w3.cell? ⟨X,5,none⟩=some (.slice a4 es.length c4):=(HT.out.1.kr hk H3.out.1).blk.cell 5
         have HBC:=Lib.hid (HBE.out _ s3 r3 w3 (HES.out.keep (fun _ _ _ h=>h)) HOLD.out H3.out.2.2)
         have hR2:stL K.E es s3=R:=by rw [← HR.out,H3.out.2.1];rfl
         rw [hR2] at HBC
         clear hR2
         go_wp2_with fail
         refine HBC.out.mono ?_
         rintro e w4 ⟨r4,hk4,⟨u,s4,hr4,rfl,-,h4⟩ | ⟨st,wr4,s4,hr4,rfl,h4⟩⟩
         · have H4:=Lib.hid (And.intro hk4 (And.intro hr4 h4))
           clear hk4 hr4 h4
           go_wp2_with fail
           go_end0
           exact Ran.go (val:=unitV) (a:=()) H4.out.2.1 ((HT.out.2.2.1.trans H3.out.1).trans H4.out.1) trivial H4.out.2.2
         · exact ⟨rfl,Ran.stop hr4 ((HT.out.2.2.1.trans H3.out.1).trans hk4) h4⟩
     · exact ⟨rfl,Ran.stop (by rw [← HR.out,hr3];rfl) (HT.out.2.2.1.trans hk3) h3⟩
   have t3:(k == 3)=false:=by simpa using k3
   by_cases k4:k=4
   · subst k4
     have hl:=HL.out.2.2.1 (by omega)
     have hl0:0 < cs.length:=by omega
     have hli:(0:Int) < cs.length:=by omega
     have hr2:=HROW2.out.resolve_left (by omega)
     clear HROW2 hl HROW HGX HVL
     obtain ⟨b0,o,rfl,hrow⟩:=hr2
     obtain ⟨hty,u0,u1,u2,u3,m0,m1,m2,m3,hnd⟩:=SlIn.item4 rfl hrow 0 hl0
     obtain ⟨fk,fn,fa,fl,fc,fa2,fl2,fc2,rfl,rfl,rfl,rfl⟩:=NdIn.formC hty hnd
     have hg:=okL_at HGC.out 0 hl0
     have kk:=keeps_below HT.out.2.2.2.1
     have y0:=kk _ _ _ m0
     have y1:=kk _ _ _ m1
     have y2:=kk _ _ _ m2
     have y3:=kk _ _ _ m3
     simp only [Nat.zero_mul,Nat.add_zero] at y0 y1 y2 y3
     have hR:=HT.out.2.2.2.2
     rw [st_while,HHL.out 0 hl0] at hR
     have HR:=Lib.hid hR
     clear hR
     have HMORE:=Lib.hid (fun s=>hldN_more K.E cs[0] s (cnd_of _ hg.1 hg.2))
     have HHD:=Lib.hid (fun s r w=>holds_any K hk w0 hH _ _ (Nat.le_refl _) hg.1 hg.2 _ s r w hnd)
     have HM:=Lib.hid (And.intro m0 (And.intro m1 (And.intro m2 m3)))
     clear m0 m1 m2 m3 hnd hrow hty kk hg HHL HGC HES HBE
     go_enter Tryz.func122,Tryz.ntmps122
     go_upto_region 1 with fail
     rw [HW1.out,HX.out]
     clear HW1
     go_wp2_with fail
     go_loopw [62] (fun _ wr=>∃ (s':Rn) (r':Option Nat) (n':Nat),loopR (hldN K.E cs[0]) (stL K.E ts) n' s'=R∧K.E.most < n'+s'.steps∧Kr K r r' w wr∧At K wr s' r'∧Tm K wr r' X #[.int .i64 4,.string nm,.slice a xs.length c,.slice (some ⟨b0,o,none⟩) cs.length c2,.slice a3 ts.length c3,.slice a4 es.length c4] 57) (fun _ wr=>K.E.most - stepsOf K wr)
     case atStart=>exact ⟨s,r,_,HR.out,by have:=HT.out.2.1.most;omega,HT.out.2.2.1,HT.out.2.1,HT.out.1⟩
     case round =>
      obtain ⟨s1,r1,n1,hR1,hn1,hkr1,h1,ht1⟩:=hrel
      have hold:Below w0.heap.size w0 wr:=HWH.out.1.trans ((hkr1.old hk HWH.out.2).mono hH)
      have kk:=keeps_below hold
      have k0:=kk _ _ _ HM.out.1
      have k1':=kk _ _ _ HM.out.2.1
      have k2':=kk _ _ _ HM.out.2.2.1
      have k3':=kk _ _ _ HM.out.2.2.2
      simp only [Nat.zero_mul,Nat.add_zero] at k0 k1' k2' k3'
      have q3:wr.cell? ⟨X,3,none⟩=some (.slice (some ⟨b0,o,none⟩) cs.length c2):=ht1.blk.cell 3
      have q4:wr.cell? ⟨X,4,none⟩=some (.slice a3 ts.length c3):=ht1.blk.cell 4
      have hm1:=h1.most
      obtain ⟨n2,rfl⟩:∃ n2,n1=n2+1:=⟨n1 - 1,by omega⟩
      rw [loopR_succ] at hR1
      have HC:=Lib.hid (HHD.out s1 r1 wr hold h1)
      have H1:=Lib.hid (And.intro hR1 (And.intro hn1 (And.intro hkr1 (And.intro h1 (And.intro ht1 hm1)))))
      clear hold kk hR1 hn1 hkr1 h1 ht1 hm1
      go_wp2_with fail
      refine HC.out.mono ?_
      rintro e w3 ⟨r3,hk3,⟨v,s3,hr3,rfl,-,h3⟩ | ⟨st,wr3,s3,hr3,rfl,h3⟩⟩
      · have hlt:=HMORE.out s1 v s3 hr3
        have hR3:=H1.out.1
        rw [hr3] at hR3
        have HR3:Hid ((if v=true then (stL K.E ts s3).bind (fun _ s=>loopR (hldN K.E cs[0]) (stL K.E ts) n2 s) else .go () s3)=R):=Lib.hid hR3
        have HLT:=Lib.hid hlt
        have HOLD:=Lib.hid (HWH.out.1.trans (((H1.out.2.2.1.trans hk3).old hk HWH.out.2).mono hH))
        have p4:w3.cell? ⟨X,4,none⟩=some (.slice a3 ts.length c3):=(H1.out.2.2.2.2.1.kr hk hk3).blk.cell 4
        have H3:=Lib.hid (And.intro hk3 h3)
        clear hk3 hr3 h3 hR3 hlt k0 k1' k2' k3' q3 q4
        cases v with
        | false =>
          go_wp2_with fail
          go_end0
          exact Ran.go (val:=unitV) (a:=()) HR3.out.symm (H1.out.2.2.1.trans H3.out.1) trivial H3.out.2
        | true =>
          have HBC:=Lib.hid (HBT.out _ s3 r3 w3 (HTS.out.keep (fun _ _ _ h=>h)) HOLD.out H3.out.2)
          go_wp2_with fail
          refine HBC.out.mono ?_
          rintro e w4 ⟨r4,hk4,⟨u,s4,hr4,rfl,-,h4⟩ | ⟨st,wr4,s4,hr4,rfl,h4⟩⟩
          · have hR4:=HR3.out
            simp only [if_true] at hR4
            rw [hr4] at hR4
            have HR4:Hid (loopR (hldN K.E cs[0]) (stL K.E ts) n2 s4=R):=Lib.hid hR4
            have hup:=stL_up K.E ts s3
            rw [hr4] at hup
            have HUP:Hid (s3.steps≤s4.steps):=Lib.hid hup
            have HMO:=Lib.hid h4.most
            have H4:=Lib.hid (And.intro hk4 h4)
            clear hk4 hr4 h4 hR4 hup
            go_wp2_with fail
            go_roundw
            case rel=>exact ⟨s4,r4,n2,HR4.out,by have:=H1.out.2.1;have:=HLT.out;have:=HUP.out;omega,(H1.out.2.2.1.trans H3.out.1).trans H4.out.1,H4.out.2,(H1.out.2.2.2.2.1.kr hk H3.out.1).kr hk H4.out.1⟩
            case measure =>
             have e1:=stepsOf_at H1.out.2.2.2.1
             have e2:=stepsOf_at H4.out.2
             have h6:=HLT.out
             have h7:=HUP.out
             have h8:=HMO.out
             simp only [e1,e2]
             omega
          · refine ⟨rfl,Ran.stop ?_ ((H1.out.2.2.1.trans H3.out.1).trans hk4) h4⟩
            have hR4:=HR3.out
            simp only [if_true] at hR4
            rw [hr4] at hR4
            exact hR4.symm
      · refine ⟨rfl,Ran.stop ?_ (H1.out.2.2.1.trans hk3) h3⟩
        rw [← H1.out.1,hr3]
        rfl
   have t4:(k == 4)=false:=by simpa using k4
   by_cases k5:k=5
   · subst k5
     have hl:=HL.out.2.2.1 (by omega)
     have hl0:0 < cs.length:=by omega
     have hli:(0:Int) < cs.length:=by omega
     have hr2:=HROW2.out.resolve_left (by omega)
     clear HROW2 hl HROW HGX HVL
     obtain ⟨b0,o,rfl,hrow⟩:=hr2
     obtain ⟨hty,u0,u1,u2,u3,m0,m1,m2,m3,hnd⟩:=SlIn.item4 rfl hrow 0 hl0
     obtain ⟨fk,fn,fa,fl,fc,fa2,fl2,fc2,rfl,rfl,rfl,rfl⟩:=NdIn.formC hty hnd
     have hg:=okL_at HGC.out 0 hl0
     have kk:=keeps_below HT.out.2.2.2.1
     have y0:=kk _ _ _ m0
     have y1:=kk _ _ _ m1
     have y2:=kk _ _ _ m2
     have y3:=kk _ _ _ m3
     simp only [Nat.zero_mul,Nat.add_zero] at y0 y1 y2 y3
     have hR:astR K.E cs[0] s=R:=by rw [← HT.out.2.2.2.2,st_assert,HHL.out 0 hl0];rfl
     have HC:=Lib.hid (rassert_any K hk w0 hH _ _ hg.1 hg.2 s r W1 hnd HT.out.2.2.2.1 HT.out.2.1)
     rw [hR] at HC
     clear hR
     clear m0 m1 m2 m3 hnd hrow hty kk hg HHL HGC
     go_enter Tryz.func122,Tryz.ntmps122
     go_upto_region 1 with fail
     rw [HW1.out,HX.out]
     clear HW1
     go_wp2_with fail
     refine HC.out.mono ?_
     rintro e w3 ⟨r3,hk3,⟨u,s3,hr3,rfl,-,h3⟩ | ⟨st,wr3,s3,hr3,rfl,h3⟩⟩
     · have H3:=Lib.hid (And.intro hk3 (And.intro hr3 h3))
       clear hk3 hr3 h3
       go_wp2_with fail
       go_end0
       exact Ran.go (val:=unitV) (a:=()) H3.out.2.1 (HT.out.2.2.1.trans H3.out.1) trivial H3.out.2.2
     · exact ⟨rfl,Ran.stop hr3 (HT.out.2.2.1.trans hk3) h3⟩
   have t5:(k == 5)=false:=by simpa using k5
   by_cases k6:k=6
   · subst k6
     have hl:=HL.out.2.2.1 (by omega)
     have hl0:0 < cs.length:=by omega
     have hli:(0:Int) < cs.length:=by omega
     have hr2:=HROW2.out.resolve_left (by omega)
     clear HROW2 hl HROW HGX HVL
     obtain ⟨b0,o,rfl,hrow⟩:=hr2
     obtain ⟨hty,u0,u1,u2,u3,m0,m1,m2,m3,hnd⟩:=SlIn.item4 rfl hrow 0 hl0
     obtain ⟨fk,fn,fa,fl,fc,fa2,fl2,fc2,rfl,rfl,rfl,rfl⟩:=NdIn.formC hty hnd
     have hg:=okL_at HGC.out 0 hl0
     have kk:=keeps_below HT.out.2.2.2.1
     have y0:=kk _ _ _ m0
     have y1:=kk _ _ _ m1
     have y2:=kk _ _ _ m2
     have y3:=kk _ _ _ m3
     simp only [Nat.zero_mul,Nat.add_zero] at y0 y1 y2 y3
     have hR:=HT.out.2.2.2.2
     rw [st_assume,HHL.out 0 hl0] at hR
     have HR:=Lib.hid hR
     clear hR
     have HC:=Lib.hid (holds_any K hk w0 hH _ _ (Nat.le_refl _) hg.1 hg.2 _ s r W1 hnd HT.out.2.2.2.1 HT.out.2.1)
     clear m0 m1 m2 m3 hnd hrow hty kk hg HHL HGC
     go_enter Tryz.func122,Tryz.ntmps122
     go_upto_region 1 with fail
     rw [HW1.out,HX.out]
     clear HW1
     go_wp2_with fail
     refine HC.out.mono ?_
     rintro e w3 ⟨r3,hk3,⟨v,s3,hr3,rfl,-,h3⟩ | ⟨st,wr3,s3,hr3,rfl,h3⟩⟩
     · have H3:=Lib.hid (And.intro hk3 (And.intro hr3 h3))
       clear hk3 hr3 h3
       cases v with
       | true =>
         go_wp2_with fail
         go_end0
         exact Ran.go (val:=unitV) (a:=()) (by rw [← HR.out,H3.out.2.1];rfl) (HT.out.2.2.1.trans H3.out.1) trivial H3.out.2.2
       | false =>
         go_wp2_with fail
         refine (halt_any _ _).mono ?_
         rintro e w4 ⟨rfl,rfl⟩
         exact ⟨rfl,Ran.stop (by rw [← HR.out,H3.out.2.1];rfl) (HT.out.2.2.1.trans H3.out.1) H3.out.2.2⟩
     · exact ⟨rfl,Ran.stop (by rw [← HR.out,hr3];rfl) (HT.out.2.2.1.trans hk3) h3⟩
   have t6:(k == 6)=false:=by simpa using k6
   obtain rfl:k=7:=by have:=HL.out.2.2.2.2.2.2;omega
   have hR:=HT.out.2.2.2.2
   rw [st_skip] at hR
   have HC:=Lib.hid (step_any K hk s r W1 HT.out.2.1)
   rw [hR] at HC
   clear hR HROW HROW2 HGX HGC HHL HVL HBT HBE
   go_enter Tryz.func122,Tryz.ntmps122
   go_upto_region 1 with fail
   rw [HW1.out,HX.out]
   clear HW1
   go_wp2_with fail
   refine HC.out.mono ?_
   rintro e w3 ⟨r3,hk3,⟨u,s3,hr3,rfl,-,h3⟩ | ⟨st,wr3,s3,hr3,rfl,h3⟩⟩
   · have H3:=Lib.hid (And.intro hk3 (And.intro hr3 h3))
     clear hk3 hr3 h3
     go_wp2_with fail
     go_end0
     exact Ran.go (val:=unitV) (a:=()) H3.out.2.1 (HT.out.2.2.1.trans H3.out.1) trivial H3.out.2.2
   · exact ⟨rfl,Ran.stop hr3 (HT.out.2.2.1.trans hk3) h3⟩
end Go.Proofs.YtmohmggnjldddaaGreatDoor
