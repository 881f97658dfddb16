/-
  The lowering's compare: proved is that it lays the plain edges.
-/
import Derived.Test.YtmohmggnjldddaaGreatDoorQCfgD
import Derived.Test.YtmohmggnjldddaaGreatDoorQStA
import Derived.Test.YtmohmggnjldddaaGreatDoorQAbb
namespace Go.Proofs.YtmohmggnjldddaaGreatDoor
set_option maxHeartbeats 8000000
set_option maxRecDepth 100000
open Go Go.RowKit Go.Maps
theorem tab_next {w0 w:World} (ht:TabK w0) (hb:Below w0.heap.size w0 w):∀ i,i<11→w.cell? ⟨1,i,none⟩=some (.int .i64 (tabK i)):=fun i hi=>keeps_below hb _ _ _ (ht i hi)
theorem into_of (K:Le) (hk:K.ok) (w0:World) (hH:w0.heap.size≤K.H0) (htab:TabK w0) (x:Nd) (hty:x.ty=.E) (hok:fmN x) (hops:OpsC K w0 (argsN x)):IntoC K w0 x:=by
 intro us dst f t d s r w hin hsim hw h hf hd0 hd1
 obtain ⟨ty,k,n,nm,xs,cs,ts,es⟩:=x
 simp only [Nd.ty] at hty
 subst hty
 unfold fmN at hok
 obtain ⟨⟨hk1,hk2,-⟩,-⟩:=hok
 unfold NdIn at hin
 obtain ⟨hz,-,-,hnm,vx,vc,vt,ve0,rfl,hsl,-⟩:=hin
 simp only [fits] at hz
 obtain ⟨rfl,rfl,rfl⟩:=hz
 change OpsC K w0 xs at hops
 change Few s (4 * szL xs+2) at hf
 have hx:1+szL xs≤szN (.mk .E k n nm xs [] [] []):=args_sz (.mk .E k n nm xs [] [] [])
 have hk3:3≤k:=by
  have h1:k≠1:=by
   intro e
   subst e
   cases xs<;>simp [simN,conK,simK] at hsim
  have h2:k≠2:=by
   intro e
   subst e
   cases xs<;>simp [simN,conK,simK] at hsim
  omega
 obtain ⟨kn,rfl⟩:∃ m:Nat,k=m:=⟨k.toNat,by omega⟩
 have hkn:kn<11:=by omega
 have htk:tabK kn=kindK kn:=by unfold tabK;rw [if_neg (by omega)]
 have hsv:∃ a c,vx=.slice a xs.length c:=by obtain ⟨a,c,h,-⟩:=hsl;exact ⟨a,c,h⟩
 obtain ⟨a,c,rfl⟩:=hsv
 change Calls _ _ #[_,.agg #[.int .i64 (kn:Int),.int .i64 n,.string nm,.slice a xs.length c],_,_,_,_] w _
 show Calls _ _ _ w (Lows K unitT r w ((opsL K.E xs f d s).2.2.add (lastE K.E kn nm dst (opsL K.E xs f d s).2.1 t (opsL K.E xs f d s).1)))
 have hX0:=Tl.new h #[.int .i64 (kn:Int),.int .i64 n,.string nm,.slice a xs.length c] 142
 have h1:=h.alloc hk (.cells #[.int .i64 (kn:Int),.int .i64 n,.string nm,.slice a xs.length c] 142)
 have hkr:Kl K r r w (w.alloc (.cells #[.int .i64 (kn:Int),.int .i64 n,.string nm,.slice a xs.length c] 142)):=(Kl.refl K r w).alloc _
 obtain ⟨W1,hW1⟩:∃ W1,w.alloc (.cells #[.int .i64 (kn:Int),.int .i64 n,.string nm,.slice a xs.length c] 142)=W1:=⟨_,rfl⟩
 rw [hW1] at hX0 h1 hkr
 obtain ⟨X,hX⟩:∃ X,w.heap.size=X:=⟨_,rfl⟩
 rw [hX] at hX0
 have hold1:Below w0.heap.size w0 W1:=hw.trans ((hkr.old hk h).mono hH)
 have hgr:=opsL_gr K.E xs f d s
 have HO:=zh (hops _ f d s r W1 hsl hold1 h1 ⟨by have:=hf.p;omega,by have:=hf.e;omega⟩ hd0 (by omega))
 obtain ⟨⟨os,q2,s2⟩,hop⟩:∃ p,opsL K.E xs f d s=p:=⟨_,rfl⟩
 rw [hop] at hgr ⊢
 simp only [hop] at HO hgr ⊢
 have hf2:Few s2 1:=⟨by have:=hf.p;have:=hgr.p1;omega,by have:=hf.e;have:=hgr.e1;omega⟩
 have x0:=hX0.blk.cell
 have HH:=zh (za h (za hw (za hf2 (za htk (za htab (za hk3 hk2))))))
 have HB:=zh (za hX0 (za h1 hkr))
 have HE:=zh (za hW1 hX)
 have hkb:(kn:Int)<11:=by omega
 clear hX0 h1 hkr hW1 hX hold1 hgr hop hf2 hsl htab hsim hf hx hk1 hk2 hk3 htk hops hd0 hd1 hw h
 go_enter Tryz.func152,Tryz.ntmps152
 go_upto_region 1 with fail
 rw [HE.out.1,HE.out.2]
 go_upto_region 2 with (first | (go_at_call 153;(with_reducible refine HO.out.mono ?_);rintro e w3 ⟨rfl,r3,hk3,h3⟩;have H3:=zh (za hk3 h3);clear hk3 h3 x0) | fail)
 have hb4:Below w3.heap.size w3 (w3.alloc (.cells #[.int .i64 (op0 os).1,.int .i64 (op0 os).2,.int .i64 (op1 os).1,.int .i64 (op1 os).2] 219)):=(Below.refl _ w3).alloc (Nat.le_refl _) _
 have hO4:=Tl.new H3.out.2 #[.int .i64 (op0 os).1,.int .i64 (op0 os).2,.int .i64 (op1 os).1,.int .i64 (op1 os).2] 219
 have h4:=H3.out.2.next hk hb4
 have hX4:=(HB.out.1.kr hk H3.out.1).next hb4
 have hkr4:=(HB.out.2.2.trans H3.out.1).trans (Kl.below hb4)
 obtain ⟨W4,hW4⟩:∃ W,w3.alloc (.cells #[.int .i64 (op0 os).1,.int .i64 (op0 os).2,.int .i64 (op1 os).1,.int .i64 (op1 os).2] 219)=W:=⟨_,rfl⟩
 obtain ⟨O,hO⟩:∃ O,w3.heap.size=O:=⟨_,rfl⟩
 rw [hW4] at hO4 h4 hX4 hkr4
 rw [hO] at hO4
 rw [hW4,hO]
 have hold4:Below w0.heap.size w0 W4:=HH.out.2.1.trans ((hkr4.old hk HH.out.1).mono hH)
 have tk:=tab_next HH.out.2.2.2.2.1 hold4 kn hkn
 have x0:=hX4.blk.cell
 have hXO:X≠O:=by have:=hX4.blk.lt;have:=(HB.out.1.kr hk H3.out.1).blk.lt;omega
 have HED:=zh (fun w=>show Calls Tryz.prog 150 #[.int .i64 q2,.int .i64 t,.int .i64 (tabK kn)] w (fun e w'=>e=.returned (.agg #[.int .i64 q2,.int .i64 t,.int .i64 (tabK kn),.int .i64 (-1),.int .i64 (-1),.int .i64 0,.int .i64 (-1),.int .i64 0,.int .i64 (-1),.int .i64 0])∧Below w.heap.size w w') from cedge_any q2 t (tabK kn) w)
 have H4:=zh (za hO4 (za h4 (za hX4 (za hkr4 (za hold4 hXO)))))
 obtain ⟨TK,hTK⟩:∃ z,tabK kn=z:=⟨_,rfl⟩
 rw [hTK] at tk
 rw [hTK] at HED
 have HTK:=zh hTK
 clear hb4 hO4 h4 hX4 hkr4 hW4 hO hold4 hXO hTK
 go_upto_region 3 with (first | (go_at_call 150;(with_reducible refine (HED.out _).mono ?_);rintro e w5 ⟨rfl,hb5⟩;have HB5:=zh hb5;clear hb5 x0) | fail)
 have hb6:Below W4.heap.size W4 (w5.alloc (.cells #[.int .i64 q2,.int .i64 t,.int .i64 TK,.int .i64 (-1),.int .i64 (-1),.int .i64 0,.int .i64 (-1),.int .i64 0,.int .i64 (-1),.int .i64 0] 40)):=HB5.out.alloc HB5.out.size _
 have h5:=H4.out.2.1.next hk HB5.out
 have hL6:=Tl.new h5 #[.int .i64 q2,.int .i64 t,.int .i64 TK,.int .i64 (-1),.int .i64 (-1),.int .i64 0,.int .i64 (-1),.int .i64 0,.int .i64 (-1),.int .i64 0] 40
 have h6:=H4.out.2.1.next hk hb6
 have hX6:=H4.out.2.2.1.next hb6
 have hO6:=H4.out.1.next hb6
 have hkr6:=H4.out.2.2.2.1.trans (Kl.below hb6)
 have hOL:O<w5.heap.size:=Nat.lt_of_lt_of_le H4.out.1.blk.lt HB5.out.size
 obtain ⟨W6,hW6⟩:∃ W,w5.alloc (.cells #[.int .i64 q2,.int .i64 t,.int .i64 TK,.int .i64 (-1),.int .i64 (-1),.int .i64 0,.int .i64 (-1),.int .i64 0,.int .i64 (-1),.int .i64 0] 40)=W:=⟨_,rfl⟩
 obtain ⟨L,hL⟩:∃ L,w5.heap.size=L:=⟨_,rfl⟩
 rw [hW6] at hL6 h6 hX6 hO6 hkr6
 rw [hL] at hL6 hOL
 rw [hW6,hL]
 have o0:=hO6.blk.cell 0
 have o1:=hO6.blk.cell 1
 have o2:=hO6.blk.cell 2
 have o3:=hO6.blk.cell 3
 have l0:=hL6.blk.cell
 have l1:=hL6.blk.free
 have hneO:O≠L:=by omega
 have HGL:=zh (show w.heap.size≤L by have:=H4.out.2.2.2.1.size;have:=HB5.out.size;omega)
 have hneX:X≠L:=by have:=H4.out.2.2.1.blk.lt;have:=HB5.out.size;omega
 have H6:=zh (za hL6 (za h6 (za hX6 (za hO6 (za hkr6 hneX)))))
 clear hb6 h5 hL6 h6 hX6 hO6 hkr6 hOL hW6 hL hneX tk
 go_cut [31] (fun _ wx=>Blk wx L #[.int .i64 q2,.int .i64 t,.int .i64 TK,.int .i64 dst,.int .i64 (-1),.int .i64 0,.int .i64 (op0 os).1,.int .i64 (op0 os).2,.int .i64 (op1 os).1,.int .i64 (op1 os).2] 40∧Only L W6 wx)
 case first =>
  go_region
  all_goals
   go_wp2_with fail
   go_meet
   have b0:Blk (W6.setCell ⟨L,3,none⟩ (.int .i64 dst)) L #[.int .i64 q2,.int .i64 t,.int .i64 TK,.int .i64 dst,.int .i64 (-1),.int .i64 0,.int .i64 (-1),.int .i64 0,.int .i64 (-1),.int .i64 0] 40:=H6.out.1.blk.set 3 (.int .i64 dst)
   have b1:Blk ((W6.setCell ⟨L,3,none⟩ (.int .i64 dst)).setCell ⟨L,6,none⟩ (.int .i64 (op0 os).1)) L #[.int .i64 q2,.int .i64 t,.int .i64 TK,.int .i64 dst,.int .i64 (-1),.int .i64 0,.int .i64 (op0 os).1,.int .i64 0,.int .i64 (-1),.int .i64 0] 40:=b0.set 6 (.int .i64 (op0 os).1)
   have b2:Blk (((W6.setCell ⟨L,3,none⟩ (.int .i64 dst)).setCell ⟨L,6,none⟩ (.int .i64 (op0 os).1)).setCell ⟨L,7,none⟩ (.int .i64 (op0 os).2)) L #[.int .i64 q2,.int .i64 t,.int .i64 TK,.int .i64 dst,.int .i64 (-1),.int .i64 0,.int .i64 (op0 os).1,.int .i64 (op0 os).2,.int .i64 (-1),.int .i64 0] 40:=b1.set 7 (.int .i64 (op0 os).2)
   have b3:Blk ((((W6.setCell ⟨L,3,none⟩ (.int .i64 dst)).setCell ⟨L,6,none⟩ (.int .i64 (op0 os).1)).setCell ⟨L,7,none⟩ (.int .i64 (op0 os).2)).setCell ⟨L,8,none⟩ (.int .i64 (op1 os).1)) L #[.int .i64 q2,.int .i64 t,.int .i64 TK,.int .i64 dst,.int .i64 (-1),.int .i64 0,.int .i64 (op0 os).1,.int .i64 (op0 os).2,.int .i64 (op1 os).1,.int .i64 0] 40:=b2.set 8 (.int .i64 (op1 os).1)
   have b4:Blk (((((W6.setCell ⟨L,3,none⟩ (.int .i64 dst)).setCell ⟨L,6,none⟩ (.int .i64 (op0 os).1)).setCell ⟨L,7,none⟩ (.int .i64 (op0 os).2)).setCell ⟨L,8,none⟩ (.int .i64 (op1 os).1)).setCell ⟨L,9,none⟩ (.int .i64 (op1 os).2)) L #[.int .i64 q2,.int .i64 t,.int .i64 TK,.int .i64 dst,.int .i64 (-1),.int .i64 0,.int .i64 (op0 os).1,.int .i64 (op0 os).2,.int .i64 (op1 os).1,.int .i64 (op1 os).2] 40:=b3.set 9 (.int .i64 (op1 os).2)
   exact ⟨b4,((((((Only.refl L W6).setCell (p:=⟨L,3,none⟩) rfl (.int .i64 dst)).setCell (p:=⟨L,6,none⟩) rfl (.int .i64 (op0 os).1)).setCell (p:=⟨L,7,none⟩) rfl (.int .i64 (op0 os).2)).setCell (p:=⟨L,8,none⟩) rfl (.int .i64 (op1 os).1)).setCell (p:=⟨L,9,none⟩) rfl (.int .i64 (op1 os).2)).trans (Only.below (B:=L) (Below.refl _ _).drew)⟩
 case rest =>
  obtain ⟨hbc,hoc⟩:=hcut
  have hlc:=H6.out.2.1.tmp hk H6.out.1.base H6.out.1.row hoc
  have hkc:=H6.out.2.2.2.2.1.one hoc (Nat.le_trans HGL.out (Nat.le_refl _))
  have x0:=(H6.out.2.2.1.blk.only hoc H6.out.2.2.2.2.2).cell
  have htl:Tl K wc r3 L _ 40:=⟨hbc,H6.out.1.base,H6.out.1.row⟩
  have hadd:=fun x w (h:La K w s2 r3)=>cadd_any K hk s2 r3 x w h HH.out.2.2.1
  have l2:=hbc.cell
  have l3:=hbc.free
  have HC:=zh (za hlc (za hkc (za htl hoc)))
  have HAD:=zh hadd
  clear hbc hoc hlc hkc htl hadd o0 o1 o2 o3 l0 l1 hneO
  by_cases k4:(kn:Int)=4
  · have e4:((kn:Int)==4)=true:=by simpa using k4
    obtain ⟨ve,hm,he⟩:=HC.out.1
    obtain ⟨ve',hm',he'⟩:=HC.out.1.drew hk
    have hl1:=hm.look hk nm hnm
    have hl2:=hm'.look hk nm hnm
    have c0:wc.cell? ⟨K.M,0,none⟩=some (.map (some K.G)):=hm.mach.cell 0
    obtain ⟨PL,hPL⟩:∃ z:Nat,K.E.pl nm=z:=⟨_,rfl⟩
    rw [hPL] at hl1 hl2
    have hE:lastE K.E kn nm dst q2 t os=⟨q2,t,TK,dst,(PL:Int),0,(op0 os).1,(op0 os).2,(op1 os).1,(op1 os).2⟩:=by
     unfold lastE
     rw [if_pos k4,hPL,← HH.out.2.2.2.1,HTK.out]
    have HE2:=zh hE
    clear hm he hm' he' hPL k4 hE
    go_upto_region 5 with fail
    go_region
    all_goals
     go_upto_region 6 with fail
     have htl4:=HC.out.2.2.1.set 4 (.int .i64 (PL:Int))
     have l4:∀ o,((wc.setCell ⟨L,4,none⟩ (.int .i64 (PL:Int))).drew).cell? ⟨L,o,none⟩=_:=htl4.blk.cell
     simp only [Array.setIfInBounds] at l4
     have ho4:Only L wc ((wc.setCell ⟨L,4,none⟩ (.int .i64 (PL:Int))).drew):=((Only.refl L wc).setCell (p:=⟨L,4,none⟩) rfl _).trans (Only.below (B:=L) (Below.refl _ _).drew)
     have hla4:=HC.out.1.tmp hk HC.out.2.2.1.base HC.out.2.2.1.row ho4
     have hkr4:=HC.out.2.1.one ho4 HGL.out
     clear l2 l3
     have HA:=zh (show Calls Tryz.prog 151 #[.pointer (some ⟨K.M,0,none⟩),.agg #[.int .i64 q2,.int .i64 t,.int .i64 TK,.int .i64 dst,.int .i64 (PL:Int),.int .i64 0,.int .i64 (op0 os).1,.int .i64 (op0 os).2,.int .i64 (op1 os).1,.int .i64 (op1 os).2]] ((wc.setCell ⟨L,4,none⟩ (.int .i64 (PL:Int))).drew) (Lows K unitT r3 ((wc.setCell ⟨L,4,none⟩ (.int .i64 (PL:Int))).drew) (s2.add ⟨q2,t,TK,dst,(PL:Int),0,(op0 os).1,(op0 os).2,(op1 os).1,(op1 os).2⟩)) from HAD.out ⟨q2,t,TK,dst,(PL:Int),0,(op0 os).1,(op0 os).2,(op1 os).1,(op1 os).2⟩ _ hla4)
     go_wp2_with (first | (go_at_call 151;(with_reducible refine HA.out.mono ?_);rintro e w9 ⟨rfl,r9,hk9,h9⟩) | fail)
     go_end0
     rw [HE2.out]
     exact ⟨rfl,r9,hkr4.trans hk9,h9⟩
  · have e4:((kn:Int)==4)=false:=by simpa using k4
    have hE:lastE K.E kn nm dst q2 t os=⟨q2,t,TK,dst,(-1),0,(op0 os).1,(op0 os).2,(op1 os).1,(op1 os).2⟩:=by
     unfold lastE
     rw [if_neg k4,← HH.out.2.2.2.1,HTK.out]
    have HE2:=zh hE
    clear k4 hE
    go_upto_region 6 with fail
    have HA:=zh (show Calls Tryz.prog 151 #[.pointer (some ⟨K.M,0,none⟩),.agg #[.int .i64 q2,.int .i64 t,.int .i64 TK,.int .i64 dst,.int .i64 (-1),.int .i64 0,.int .i64 (op0 os).1,.int .i64 (op0 os).2,.int .i64 (op1 os).1,.int .i64 (op1 os).2]] (wc) (Lows K unitT r3 (wc) (s2.add ⟨q2,t,TK,dst,(-1),0,(op0 os).1,(op0 os).2,(op1 os).1,(op1 os).2⟩)) from HAD.out ⟨q2,t,TK,dst,(-1),0,(op0 os).1,(op0 os).2,(op1 os).1,(op1 os).2⟩ _ HC.out.1)
    go_wp2_with (first | (go_at_call 151;(with_reducible refine HA.out.mono ?_);rintro e w9 ⟨rfl,r9,hk9,h9⟩) | fail)
    go_end0
    rw [HE2.out]
    exact ⟨rfl,r9,HC.out.2.1.trans hk9,h9⟩
theorem args_two {x:Nd} (hty:x.ty=.E) (hok:fmN x):(argsN x).length≤2∧fmL .E (argsN x):=by
 obtain ⟨ty,k,n,nm,xs,cs,ts,es⟩:=x
 simp only [Nd.ty] at hty
 subst hty
 unfold fmN at hok
 obtain ⟨⟨h1,h2,-,h3,h4,h5⟩,hx,-⟩:=hok
 refine ⟨?_,hx⟩
 show xs.length≤2
 by_cases h:k≤3
 · have:=h3 h;omega
 · by_cases h6:6≤k
   · have:=h5 h6;omega
   · have:=h4 (by omega);omega
theorem args_lt {x y:Nd} (h:y ∈ argsN x):SizeOf.sizeOf y<SizeOf.sizeOf x:=by
 obtain ⟨ty,k,n,nm,xs,cs,ts,es⟩:=x
 have:=List.sizeOf_lt_of_mem (show y ∈ xs from h)
 simp only [Nd.mk.sizeOf_spec]
 omega
theorem op_any (K:Le) (hk:K.ok) (w0:World) (hH:w0.heap.size≤K.H0) (htab:TabK w0):∀ (N:Nat) (x:Nd),SizeOf.sizeOf x≤N→x.ty=.E→fmN x→OpC K w0 x:=by
 intro N
 induction N with
 | zero =>
   intro x hN
   obtain ⟨ty,k,n,nm,xs,cs,ts,es⟩:=x
   simp only [Nd.mk.sizeOf_spec] at hN
   omega
 | succ N ih =>
   intro x hN hty hok
   obtain ⟨h2,hl⟩:=args_two hty hok
   refine operand_of K hk w0 hH x hty hok (into_of K hk w0 hH htab x hty hok (ops_of K hk w0 hH _ h2 (fun i hi=>?_)))
   have:=args_lt (x:=x) (List.getElem_mem hi)
   exact ih _ (by omega) (fmL_at hl i hi).1 (fmL_at hl i hi).2
theorem ops_any (K:Le) (hk:K.ok) (w0:World) (hH:w0.heap.size≤K.H0) (htab:TabK w0) (l:List Nd) (hl:l.length≤2) (hf:fmL .E l):OpsC K w0 l :=
 ops_of K hk w0 hH l hl (fun i hi=>op_any K hk w0 hH htab _ _ (Nat.le_refl _) (fmL_at hf i hi).1 (fmL_at hf i hi).2)
theorem into_any (K:Le) (hk:K.ok) (w0:World) (hH:w0.heap.size≤K.H0) (htab:TabK w0) (x:Nd) (hty:x.ty=.E) (hok:fmN x):IntoC K w0 x :=
 into_of K hk w0 hH htab x hty hok (ops_any K hk w0 hH htab _ (args_two hty hok).1 (args_two hty hok).2)
theorem compare_any (K:Le) (hk:K.ok) (w0:World) (hH:w0.heap.size≤K.H0) (htab:TabK w0) (k op:Int) (xs:List Nd) (hlen:xs.length=2) (hfx:fmL .E xs) (vx:Value) (hsl:SlIn w0 .E xs vx) (ap:Option Addr) (lp cp:Nat) (f y n:Int) (s:Lw) (r:Option Nat) (w:World) (hw:Below w0.heap.size w0 w) (h:La K w s r) (hf:Few s (4 * szL xs+4)) (hd:szL xs≤1099511627776) :
    Calls Tryz.prog 184 #[.pointer (some ⟨K.M,0,none⟩),.agg #[.int .i64 k,.int .i64 op,vx,.slice ap lp cp],.int .i64 f,.int .i64 y,.int .i64 n] w (Lows K unitT r w (cmpE K.E op xs f y n s)):=by
 have hops:=ops_any K hk w0 hH htab xs (by omega) hfx
 have hsv:∃ a c,vx=.slice a xs.length c:=by obtain ⟨a,c,h,-⟩:=hsl;exact ⟨a,c,h⟩
 obtain ⟨a,c,rfl⟩:=hsv
 unfold cmpE
 have hX0:=Tl.new h #[.int .i64 k,.int .i64 op,.slice a xs.length c,.slice ap lp cp] 150
 have h1:=h.alloc hk (.cells #[.int .i64 k,.int .i64 op,.slice a xs.length c,.slice ap lp cp] 150)
 have hkr:Kl K r r w (w.alloc (.cells #[.int .i64 k,.int .i64 op,.slice a xs.length c,.slice ap lp cp] 150)):=(Kl.refl K r w).alloc _
 obtain ⟨W1,hW1⟩:∃ W1,w.alloc (.cells #[.int .i64 k,.int .i64 op,.slice a xs.length c,.slice ap lp cp] 150)=W1:=⟨_,rfl⟩
 rw [hW1] at hX0 h1 hkr
 obtain ⟨X,hX⟩:∃ X,w.heap.size=X:=⟨_,rfl⟩
 rw [hX] at hX0
 have hold1:Below w0.heap.size w0 W1:=hw.trans ((hkr.old hk h).mono hH)
 have hgr:=opsL_gr K.E xs f 0 s
 have HO:=zh (hops _ f 0 s r W1 hsl hold1 h1 ⟨by have:=hf.p;omega,by have:=hf.e;omega⟩ (by omega) (by omega))
 obtain ⟨⟨os,q2,s2⟩,hop⟩:∃ p,opsL K.E xs f 0 s=p:=⟨_,rfl⟩
 rw [hop] at hgr
 simp only [hop] at HO hgr ⊢
 have hf2:Few s2 2:=⟨by have:=hf.p;have:=hgr.p1;omega,by have:=hf.e;have:=hgr.e1;omega⟩
 have x0:=hX0.blk.cell
 have HH:=zh (za h (za hw hf2))
 have HB:=zh (za hX0 (za h1 hkr))
 have HE:=zh (za hW1 hX)
 clear hX0 h1 hkr hW1 hX hold1 hgr hop hf2 hsl htab hf hops hd hw h hlen hfx
 go_enter Tryz.func184,Tryz.ntmps184
 go_upto_region 1 with fail
 rw [HE.out.1,HE.out.2]
 go_upto_region 2 with (first | (go_at_call 153;(with_reducible refine HO.out.mono ?_);rintro e w3 ⟨rfl,r3,hk3,h3⟩;have H3:=zh (za hk3 h3);clear hk3 h3 x0) | fail)
 have hb4:Below w3.heap.size w3 (w3.alloc (.cells #[.int .i64 (op0 os).1,.int .i64 (op0 os).2,.int .i64 (op1 os).1,.int .i64 (op1 os).2] 219)):=(Below.refl _ w3).alloc (Nat.le_refl _) _
 have hO4:=Tl.new H3.out.2 #[.int .i64 (op0 os).1,.int .i64 (op0 os).2,.int .i64 (op1 os).1,.int .i64 (op1 os).2] 219
 have h4:=H3.out.2.next hk hb4
 have hX4:=(HB.out.1.kr hk H3.out.1).next hb4
 have hkr4:=(HB.out.2.2.trans H3.out.1).trans (Kl.below hb4)
 obtain ⟨W4,hW4⟩:∃ W,w3.alloc (.cells #[.int .i64 (op0 os).1,.int .i64 (op0 os).2,.int .i64 (op1 os).1,.int .i64 (op1 os).2] 219)=W:=⟨_,rfl⟩
 obtain ⟨O,hO⟩:∃ O,w3.heap.size=O:=⟨_,rfl⟩
 rw [hW4] at hO4 h4 hX4 hkr4
 rw [hO] at hO4
 rw [hW4,hO]
 have hXO:X≠O:=by have:=(HB.out.1.kr hk H3.out.1).blk.lt;omega
 have HED:=zh (fun w=>show Calls Tryz.prog 150 #[.int .i64 q2,.int .i64 y,.int .i64 12] w (fun e w'=>e=.returned (.agg #[.int .i64 q2,.int .i64 y,.int .i64 12,.int .i64 (-1),.int .i64 (-1),.int .i64 0,.int .i64 (-1),.int .i64 0,.int .i64 (-1),.int .i64 0])∧Below w.heap.size w w') from cedge_any q2 y 12 w)
 have H4:=zh (za hO4 (za h4 (za hX4 (za hkr4 hXO))))
 clear hb4 hO4 h4 hX4 hkr4 hW4 hO hXO
 go_upto_region 3 with (first | (go_at_call 150;(with_reducible refine (HED.out _).mono ?_);rintro e w5 ⟨rfl,hb5⟩;have HB5:=zh hb5;clear hb5) | fail)
 have hb6:Below W4.heap.size W4 (w5.alloc (.cells #[.int .i64 q2,.int .i64 y,.int .i64 12,.int .i64 (-1),.int .i64 (-1),.int .i64 0,.int .i64 (-1),.int .i64 0,.int .i64 (-1),.int .i64 0] 40)):=HB5.out.alloc HB5.out.size _
 have h5:=H4.out.2.1.next hk HB5.out
 have hL6:=Tl.new h5 #[.int .i64 q2,.int .i64 y,.int .i64 12,.int .i64 (-1),.int .i64 (-1),.int .i64 0,.int .i64 (-1),.int .i64 0,.int .i64 (-1),.int .i64 0] 40
 have h6:=H4.out.2.1.next hk hb6
 have hX6:=H4.out.2.2.1.next hb6
 have hO6:=H4.out.1.next hb6
 have hkr6:=H4.out.2.2.2.1.trans (Kl.below hb6)
 have hOL:O<w5.heap.size:=Nat.lt_of_lt_of_le H4.out.1.blk.lt HB5.out.size
 obtain ⟨W6,hW6⟩:∃ W,w5.alloc (.cells #[.int .i64 q2,.int .i64 y,.int .i64 12,.int .i64 (-1),.int .i64 (-1),.int .i64 0,.int .i64 (-1),.int .i64 0,.int .i64 (-1),.int .i64 0] 40)=W:=⟨_,rfl⟩
 obtain ⟨L,hL⟩:∃ L,w5.heap.size=L:=⟨_,rfl⟩
 rw [hW6] at hL6 h6 hX6 hO6 hkr6
 rw [hL] at hL6 hOL
 rw [hW6,hL]
 have o0:=hO6.blk.cell 0
 have o1:=hO6.blk.cell 1
 have o2:=hO6.blk.cell 2
 have o3:=hO6.blk.cell 3
 have x1:W6.cell? ⟨X,1,none⟩=some (.int .i64 op):=hX6.blk.cell 1
 have l0:=hL6.blk.cell
 have l1:=hL6.blk.free
 have hneO:O≠L:=by omega
 have HGL:=zh (show w.heap.size≤L by have:=H4.out.2.2.2.1.size;have:=HB5.out.size;omega)
 have hneX:X≠L:=by have:=H4.out.2.2.1.blk.lt;have:=HB5.out.size;omega
 have H6:=zh (za hL6 (za h6 (za hX6 (za hO6 (za hkr6 hneX)))))
 clear hb6 h5 hL6 h6 hX6 hO6 hkr6 hOL hW6 hL
 go_cut [22] (fun _ wx=>Blk wx L #[.int .i64 q2,.int .i64 y,.int .i64 12,.int .i64 (-1),.int .i64 (-1),.int .i64 op,.int .i64 (op0 os).1,.int .i64 (op0 os).2,.int .i64 (op1 os).1,.int .i64 (op1 os).2] 40∧Only L W6 wx)
 case first =>
  go_region
  all_goals
   go_wp2_with fail
   go_meet
   have b0:Blk (W6.setCell ⟨L,5,none⟩ (.int .i64 op)) L #[.int .i64 q2,.int .i64 y,.int .i64 12,.int .i64 (-1),.int .i64 (-1),.int .i64 op,.int .i64 (-1),.int .i64 0,.int .i64 (-1),.int .i64 0] 40:=H6.out.1.blk.set 5 (.int .i64 op)
   have b1:Blk ((W6.setCell ⟨L,5,none⟩ (.int .i64 op)).setCell ⟨L,6,none⟩ (.int .i64 (op0 os).1)) L #[.int .i64 q2,.int .i64 y,.int .i64 12,.int .i64 (-1),.int .i64 (-1),.int .i64 op,.int .i64 (op0 os).1,.int .i64 0,.int .i64 (-1),.int .i64 0] 40:=b0.set 6 (.int .i64 (op0 os).1)
   have b2:Blk (((W6.setCell ⟨L,5,none⟩ (.int .i64 op)).setCell ⟨L,6,none⟩ (.int .i64 (op0 os).1)).setCell ⟨L,7,none⟩ (.int .i64 (op0 os).2)) L #[.int .i64 q2,.int .i64 y,.int .i64 12,.int .i64 (-1),.int .i64 (-1),.int .i64 op,.int .i64 (op0 os).1,.int .i64 (op0 os).2,.int .i64 (-1),.int .i64 0] 40:=b1.set 7 (.int .i64 (op0 os).2)
   have b3:Blk ((((W6.setCell ⟨L,5,none⟩ (.int .i64 op)).setCell ⟨L,6,none⟩ (.int .i64 (op0 os).1)).setCell ⟨L,7,none⟩ (.int .i64 (op0 os).2)).setCell ⟨L,8,none⟩ (.int .i64 (op1 os).1)) L #[.int .i64 q2,.int .i64 y,.int .i64 12,.int .i64 (-1),.int .i64 (-1),.int .i64 op,.int .i64 (op0 os).1,.int .i64 (op0 os).2,.int .i64 (op1 os).1,.int .i64 0] 40:=b2.set 8 (.int .i64 (op1 os).1)
   have b4:Blk (((((W6.setCell ⟨L,5,none⟩ (.int .i64 op)).setCell ⟨L,6,none⟩ (.int .i64 (op0 os).1)).setCell ⟨L,7,none⟩ (.int .i64 (op0 os).2)).setCell ⟨L,8,none⟩ (.int .i64 (op1 os).1)).setCell ⟨L,9,none⟩ (.int .i64 (op1 os).2)) L #[.int .i64 q2,.int .i64 y,.int .i64 12,.int .i64 (-1),.int .i64 (-1),.int .i64 op,.int .i64 (op0 os).1,.int .i64 (op0 os).2,.int .i64 (op1 os).1,.int .i64 (op1 os).2] 40:=b3.set 9 (.int .i64 (op1 os).2)
   exact ⟨b4,((((((Only.refl L W6).setCell (p:=⟨L,5,none⟩) rfl (.int .i64 op)).setCell (p:=⟨L,6,none⟩) rfl (.int .i64 (op0 os).1)).setCell (p:=⟨L,7,none⟩) rfl (.int .i64 (op0 os).2)).setCell (p:=⟨L,8,none⟩) rfl (.int .i64 (op1 os).1)).setCell (p:=⟨L,9,none⟩) rfl (.int .i64 (op1 os).2)).trans (Only.below (B:=L) (Below.refl _ _).drew)⟩
 case rest =>
  obtain ⟨hbc,hoc⟩:=hcut
  have hlc:=H6.out.2.1.tmp hk H6.out.1.base H6.out.1.row hoc
  have hkc:=H6.out.2.2.2.2.1.one hoc HGL.out
  have hxc:Tl K wc r3 X #[.int .i64 k,.int .i64 op,.slice a xs.length c,.slice ap lp cp] 150:=⟨H6.out.2.2.1.blk.only hoc H6.out.2.2.2.2.2,H6.out.2.2.1.base,H6.out.2.2.1.row⟩
  have htl:Tl K wc r3 L #[.int .i64 q2,.int .i64 y,.int .i64 12,.int .i64 (-1),.int .i64 (-1),.int .i64 op,.int .i64 (op0 os).1,.int .i64 (op0 os).2,.int .i64 (op1 os).1,.int .i64 (op1 os).2] 40:=⟨hbc,H6.out.1.base,H6.out.1.row⟩
  have l2:=hbc.cell
  have HC:=zh (za hlc (za hkc (za htl hxc)))
  clear hbc hoc hlc hkc htl hxc o0 o1 o2 o3 l0 l1 hneO x1 hneX
  go_upto_region 5 with fail
  have hb7:Below wc.heap.size wc (wc.alloc (.cells #[.int .i64 q2,.int .i64 y,.int .i64 12,.int .i64 (-1),.int .i64 (-1),.int .i64 op,.int .i64 (op0 os).1,.int .i64 (op0 os).2,.int .i64 (op1 os).1,.int .i64 (op1 os).2] 40)):=(Below.refl _ wc).alloc (Nat.le_refl _) _
  have hF7:=Tl.new HC.out.1 #[.int .i64 q2,.int .i64 y,.int .i64 12,.int .i64 (-1),.int .i64 (-1),.int .i64 op,.int .i64 (op0 os).1,.int .i64 (op0 os).2,.int .i64 (op1 os).1,.int .i64 (op1 os).2] 40
  have h7:=HC.out.1.next hk hb7
  have hL7:=HC.out.2.2.1.next hb7
  have hX7:=HC.out.2.2.2.next hb7
  have hkr7:=HC.out.2.1.trans (Kl.below hb7)
  obtain ⟨W7,hW7⟩:∃ W,wc.alloc (.cells #[.int .i64 q2,.int .i64 y,.int .i64 12,.int .i64 (-1),.int .i64 (-1),.int .i64 op,.int .i64 (op0 os).1,.int .i64 (op0 os).2,.int .i64 (op1 os).1,.int .i64 (op1 os).2] 40)=W:=⟨_,rfl⟩
  obtain ⟨F,hF⟩:∃ F,wc.heap.size=F:=⟨_,rfl⟩
  rw [hW7] at hF7 h7 hL7 hX7 hkr7
  rw [hF] at hF7
  rw [hW7,hF]
  have hLF:L≠F:=by have:=HC.out.2.2.1.blk.lt;omega
  have HGF:=zh (show w.heap.size≤F by have:=HC.out.2.1.size;omega)
  have x1:W7.cell? ⟨X,1,none⟩=some (.int .i64 op):=hX7.blk.cell 1
  have HN:=zh (fun w=>cnot_any op w)
  have H7:=zh (za hF7 (za h7 (za hL7 (za hkr7 hLF))))
  clear hb7 hF7 h7 hL7 hX7 hkr7 hW7 hF l2
  go_upto_region 6 with (first | (go_at_call 168;(with_reducible refine (HN.out _).mono ?_);rintro e w8 ⟨rfl,hb8⟩;have HB8:=zh hb8;have f0:=(H7.out.1.next hb8).blk.cell;have f1:=(H7.out.1.next hb8).blk.free;clear hb8 x1) | fail)
  have hF8:=H7.out.1.next HB8.out
  have hF9a:=(hF8.set 1 (.int .i64 n)).set 5 (.int .i64 (notI op))
  have hF9:Tl K ((w8.setCell ⟨F,1,none⟩ (.int .i64 n)).setCell ⟨F,5,none⟩ (.int .i64 (notI op))) r3 F #[.int .i64 q2,.int .i64 n,.int .i64 12,.int .i64 (-1),.int .i64 (-1),.int .i64 (notI op),.int .i64 (op0 os).1,.int .i64 (op0 os).2,.int .i64 (op1 os).1,.int .i64 (op1 os).2] 40:=hF9a
  have ho9:Only F w8 ((w8.setCell ⟨F,1,none⟩ (.int .i64 n)).setCell ⟨F,5,none⟩ (.int .i64 (notI op))):=((Only.refl F w8).setCell (p:=⟨F,1,none⟩) rfl _).setCell (p:=⟨F,5,none⟩) rfl _
  have h9:=(H7.out.2.1.next hk HB8.out).tmp hk hF8.base hF8.row ho9
  have hkr9:=(H7.out.2.2.2.1.trans (Kl.below HB8.out)).one ho9 HGF.out
  have hL9:Tl K _ r3 L #[.int .i64 q2,.int .i64 y,.int .i64 12,.int .i64 (-1),.int .i64 (-1),.int .i64 op,.int .i64 (op0 os).1,.int .i64 (op0 os).2,.int .i64 (op1 os).1,.int .i64 (op1 os).2] 40:=⟨(H7.out.2.2.1.next HB8.out).blk.only ho9 H7.out.2.2.2.2,H7.out.2.2.1.base,H7.out.2.2.1.row⟩
  obtain ⟨W9,hW9⟩:∃ W,(w8.setCell ⟨F,1,none⟩ (.int .i64 n)).setCell ⟨F,5,none⟩ (.int .i64 (notI op))=W:=⟨_,rfl⟩
  rw [hW9] at hF9 h9 hkr9 hL9
  rw [hW9]
  have l9:=hL9.blk.cell
  have HA:=zh (show Calls Tryz.prog 151 #[.pointer (some ⟨K.M,0,none⟩),.agg #[.int .i64 q2,.int .i64 y,.int .i64 12,.int .i64 (-1),.int .i64 (-1),.int .i64 op,.int .i64 (op0 os).1,.int .i64 (op0 os).2,.int .i64 (op1 os).1,.int .i64 (op1 os).2]] W9 (Lows K unitT r3 W9 (s2.add ⟨q2,y,12,-1,-1,op,(op0 os).1,(op0 os).2,(op1 os).1,(op1 os).2⟩)) from cadd_any K hk s2 r3 ⟨q2,y,12,-1,-1,op,(op0 os).1,(op0 os).2,(op1 os).1,(op1 os).2⟩ W9 h9 ⟨by have:=HH.out.2.2.p;omega,by have:=HH.out.2.2.e;omega⟩)
  have HA2:=zh (fun r w (h:La K w (s2.add ⟨q2,y,12,-1,-1,op,(op0 os).1,(op0 os).2,(op1 os).1,(op1 os).2⟩) r)=>show Calls Tryz.prog 151 #[.pointer (some ⟨K.M,0,none⟩),.agg #[.int .i64 q2,.int .i64 n,.int .i64 12,.int .i64 (-1),.int .i64 (-1),.int .i64 (notI op),.int .i64 (op0 os).1,.int .i64 (op0 os).2,.int .i64 (op1 os).1,.int .i64 (op1 os).2]] w (Lows K unitT r w ((s2.add ⟨q2,y,12,-1,-1,op,(op0 os).1,(op0 os).2,(op1 os).1,(op1 os).2⟩).add ⟨q2,n,12,-1,-1,notI op,(op0 os).1,(op0 os).2,(op1 os).1,(op1 os).2⟩)) from cadd_any K hk (s2.add ⟨q2,y,12,-1,-1,op,(op0 os).1,(op0 os).2,(op1 os).1,(op1 os).2⟩) r ⟨q2,n,12,-1,-1,notI op,(op0 os).1,(op0 os).2,(op1 os).1,(op1 os).2⟩ w h ⟨by have:=HH.out.2.2.p;show s2.pts+_≤_;omega,by have:=HH.out.2.2.e;simp only [Lw.add,List.length_append,List.length_singleton];omega⟩)
  have H9:=zh (za hF9 hkr9)
  clear hF8 hF9a hF9 ho9 h9 hkr9 hL9 hW9 f0 f1
  go_upto_region 7 with (first | (go_at_call 151;(with_reducible refine HA.out.mono ?_);rintro e w10 ⟨rfl,r10,hk10,h10⟩;have H10:=zh (za hk10 h10);have f9:=(H9.out.1.kr hk hk10).blk.cell;clear hk10 h10 l9) | fail)
  go_wp2_with (first | (go_at_call 151;(with_reducible refine (HA2.out _ _ H10.out.2).mono ?_);rintro e w11 ⟨rfl,r11,hk11,h11⟩) | fail)
  go_end0
  exact ⟨rfl,r11,(H9.out.2.trans H10.out.1).trans hk11,h11⟩
end Go.Proofs.YtmohmggnjldddaaGreatDoor
