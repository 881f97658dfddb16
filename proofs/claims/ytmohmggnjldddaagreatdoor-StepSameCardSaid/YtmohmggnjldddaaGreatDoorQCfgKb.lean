/-
  The lowering's statements: one of them.
-/
import Derived.Test.YtmohmggnjldddaaGreatDoorQCfgK
import Derived.Test.YtmohmggnjldddaaGreatDoorQAbb
namespace Go.Proofs.YtmohmggnjldddaaGreatDoor
set_option maxHeartbeats 8000000
set_option maxRecDepth 100000
open Go Go.RowKit Go.Maps
theorem store_any (K:Le) (hk:K.ok) (w0:World) (hH:w0.heap.size≤K.H0) (htab:TabK w0) (x:Nd) (hty:x.ty=.S) (hk1:kindN x=2) (hok:fmN x):StC K w0 107 x:=by
 intro us f t s r w hin hw h hf hd
 obtain ⟨ty,k,n,nm,xs,cs,ts,es⟩:=x
 simp only [Nd.ty] at hty
 subst hty
 have hkk:k=2:=hk1
 subst hkk
 have hsz:szN (.mk .S 2 n nm xs cs ts es)=1+(szL xs+(szL cs+(szL ts+szL es))):=by rw [szN]
 unfold fmN at hok
 obtain ⟨⟨-,-,-,hx2,-⟩,hfx,-⟩:=hok
 have hlen:=hx2 rfl
 unfold NdIn at hin
 obtain ⟨hz,-,-,hnm,vx,vc,vt,ve,rfl,hxs,hcs,hts,hes⟩:=hin
 have hsx:∃ a c,vx=.slice a xs.length c:=by obtain ⟨a,c,h,-⟩:=hxs;exact ⟨a,c,h⟩
 have hsc:∃ a c,vc=.slice a cs.length c:=by obtain ⟨a,c,h,-⟩:=hcs;exact ⟨a,c,h⟩
 have hst:∃ a c,vt=.slice a ts.length c:=by obtain ⟨a,c,h,-⟩:=hts;exact ⟨a,c,h⟩
 have hse:∃ a c,ve=.slice a es.length c:=by obtain ⟨a,c,h,-⟩:=hes;exact ⟨a,c,h⟩
 obtain ⟨ax,cx,rfl⟩:=hsx
 obtain ⟨ac,cc,rfl⟩:=hsc
 obtain ⟨aT,cT,rfl⟩:=hst
 obtain ⟨aE,cE,rfl⟩:=hse
 have hops:=ops_any K hk w0 hH htab xs (by omega) hfx
 change Calls _ _ #[_,.agg #[.int .i64 2,.string nm,.slice ax xs.length cx,.slice ac cs.length cc,.slice aT ts.length cT,.slice aE es.length cE],_,_] w _
 rw [lwN]
 show Calls _ _ _ w (Lows K unitT r w (stoP K.E nm xs f t s))
 unfold stoP
 have hX0:=Tl.new h #[.int .i64 2,.string nm,.slice ax xs.length cx,.slice ac cs.length cc,.slice aT ts.length cT,.slice aE es.length cE] 57
 have h1:=h.alloc hk (.cells #[.int .i64 2,.string nm,.slice ax xs.length cx,.slice ac cs.length cc,.slice aT ts.length cT,.slice aE es.length cE] 57)
 have hkr:Kl K r r w (w.alloc (.cells #[.int .i64 2,.string nm,.slice ax xs.length cx,.slice ac cs.length cc,.slice aT ts.length cT,.slice aE es.length cE] 57)):=(Kl.refl K r w).alloc _
 obtain ⟨W1,hW1⟩:∃ W1,w.alloc (.cells #[.int .i64 2,.string nm,.slice ax xs.length cx,.slice ac cs.length cc,.slice aT ts.length cT,.slice aE es.length cE] 57)=W1:=⟨_,rfl⟩
 rw [hW1] at hX0 h1 hkr
 obtain ⟨X,hX⟩:∃ X,w.heap.size=X:=⟨_,rfl⟩
 rw [hX] at hX0
 have hold1:Below w0.heap.size w0 W1:=hw.trans ((hkr.old hk h).mono hH)
 rw [hsz] at hf hd
 have hgr:=opsL_gr K.E xs f 0 s
 have HO:=zh (hops _ f 0 s r W1 hxs hold1 h1 ⟨by have:=hf.p;omega,by have:=hf.e;omega⟩ (by omega) (by omega))
 obtain ⟨⟨os,q2,s2⟩,hop⟩:∃ p,opsL K.E xs f 0 s=p:=⟨_,rfl⟩
 rw [hop] at hgr
 simp only [hop] at HO hgr ⊢
 have hf2:Few s2 1:=⟨by have:=hf.p;have:=hgr.p1;omega,by have:=hf.e;have:=hgr.e1;omega⟩
 have x0:=hX0.blk.cell
 have HH:=zh (za h (za hw (za hf2 hnm)))
 have HB:=zh (za hX0 (za h1 hkr))
 have HE:=zh (za hW1 hX)
 obtain ⟨PL,hPL⟩:∃ z:Nat,K.E.pl nm=z:=⟨_,rfl⟩
 rw [hPL]
 have HPL:=zh hPL
 clear hX0 h1 hkr hW1 hX hold1 hgr hop hf2 hxs hcs hts hes htab hf hops hd hw h hfx hsz hx2 hlen hz hk1 hPL
 go_enter Tryz.func107,Tryz.ntmps107
 go_upto_region 1 with fail
 rw [HE.out.1,HE.out.2]
 go_upto_region 2 with (first | (go_at_call 153;(with_reducible refine HO.out.mono ?_);rintro e w3 ⟨rfl,r3,hk3,h3⟩;have H3:=zh (za hk3 h3);clear hk3 h3 x0) | fail)
 have hb4:Below w3.heap.size w3 (w3.alloc (.cells #[.int .i64 (op0 os).1,.int .i64 (op0 os).2,.int .i64 (op1 os).1,.int .i64 (op1 os).2] 219)):=(Below.refl _ w3).alloc (Nat.le_refl _) _
 have hO4:=Tl.new H3.out.2 #[.int .i64 (op0 os).1,.int .i64 (op0 os).2,.int .i64 (op1 os).1,.int .i64 (op1 os).2] 219
 have h4:=H3.out.2.next hk hb4
 have hX4:=(HB.out.1.kr hk H3.out.1).next hb4
 have hkr4:=(HB.out.2.2.trans H3.out.1).trans (Kl.below hb4)
 obtain ⟨W4,hW4⟩:∃ W,w3.alloc (.cells #[.int .i64 (op0 os).1,.int .i64 (op0 os).2,.int .i64 (op1 os).1,.int .i64 (op1 os).2] 219)=W:=⟨_,rfl⟩
 obtain ⟨O,hO⟩:∃ O,w3.heap.size=O:=⟨_,rfl⟩
 rw [hW4] at hO4 h4 hX4 hkr4
 rw [hO] at hO4
 rw [hW4,hO]
 have HED:=zh (fun w=>show Calls Tryz.prog 150 #[.int .i64 q2,.int .i64 t,.int .i64 11] w (fun e w'=>e=.returned (.agg #[.int .i64 q2,.int .i64 t,.int .i64 11,.int .i64 (-1),.int .i64 (-1),.int .i64 0,.int .i64 (-1),.int .i64 0,.int .i64 (-1),.int .i64 0])∧Below w.heap.size w w') from cedge_any q2 t 11 w)
 have H4:=zh (za hO4 (za h4 (za hX4 hkr4)))
 clear hb4 hO4 h4 hX4 hkr4 hW4 hO
 go_upto_region 3 with (first | (go_at_call 150;(with_reducible refine (HED.out _).mono ?_);rintro e w5 ⟨rfl,hb5⟩;have HB5:=zh hb5;clear hb5) | fail)
 have hb6:Below W4.heap.size W4 (w5.alloc (.cells #[.int .i64 q2,.int .i64 t,.int .i64 11,.int .i64 (-1),.int .i64 (-1),.int .i64 0,.int .i64 (-1),.int .i64 0,.int .i64 (-1),.int .i64 0] 40)):=HB5.out.alloc HB5.out.size _
 have h5:=H4.out.2.1.next hk HB5.out
 have hL6:=Tl.new h5 #[.int .i64 q2,.int .i64 t,.int .i64 11,.int .i64 (-1),.int .i64 (-1),.int .i64 0,.int .i64 (-1),.int .i64 0,.int .i64 (-1),.int .i64 0] 40
 have h6:=H4.out.2.1.next hk hb6
 have hX6:=H4.out.2.2.1.next hb6
 have hO6:=H4.out.1.next hb6
 have hkr6:=H4.out.2.2.2.trans (Kl.below hb6)
 have hOL:O<w5.heap.size:=Nat.lt_of_lt_of_le H4.out.1.blk.lt HB5.out.size
 have hXL:X<w5.heap.size:=Nat.lt_of_lt_of_le H4.out.2.2.1.blk.lt HB5.out.size
 obtain ⟨W6,hW6⟩:∃ W,w5.alloc (.cells #[.int .i64 q2,.int .i64 t,.int .i64 11,.int .i64 (-1),.int .i64 (-1),.int .i64 0,.int .i64 (-1),.int .i64 0,.int .i64 (-1),.int .i64 0] 40)=W:=⟨_,rfl⟩
 obtain ⟨L,hL⟩:∃ L,w5.heap.size=L:=⟨_,rfl⟩
 rw [hW6] at hL6 h6 hX6 hO6 hkr6
 rw [hL] at hL6 hOL hXL
 rw [hW6,hL]
 have o0:=hO6.blk.cell 0
 have o1:=hO6.blk.cell 1
 have o2:=hO6.blk.cell 2
 have o3:=hO6.blk.cell 3
 have x1:W6.cell? ⟨X,1,none⟩=some (.string nm):=hX6.blk.cell 1
 have l0:=hL6.blk.cell
 have l1:=hL6.blk.free
 have hneO:O≠L:=by omega
 have hneX:X≠L:=by omega
 have HGL:=zh (show w.heap.size≤L by have:=H4.out.2.2.2.size;have:=HB5.out.size;omega)
 obtain ⟨ve,hm,he⟩:=h6
 have h6:La K W6 s2 r3:=⟨ve,hm,he⟩
 obtain ⟨ve',hm',he'⟩:=h6.drew hk
 have hl1:=hm.look hk nm HH.out.2.2.2
 have hl2:=hm'.look hk nm HH.out.2.2.2
 rw [HPL.out] at hl1 hl2
 have c0:W6.cell? ⟨K.M,0,none⟩=some (.map (some K.G)):=hm.mach.cell 0
 have hML:K.M≠L:=by have:=hm.mach.lt;have:=hL6.base;have:=hk.m1;omega
 have H6:=zh (za hL6 (za h6 hkr6))
 clear hb6 h5 hL6 hX6 hO6 hkr6 hOL hXL hW6 hL hm he hm' he' h6
 go_cut [19] (fun _ wx=>Blk wx L #[.int .i64 q2,.int .i64 t,.int .i64 11,.int .i64 (-1),.int .i64 (PL:Int),.int .i64 0,.int .i64 (op0 os).1,.int .i64 (op0 os).2,.int .i64 (op1 os).1,.int .i64 (op1 os).2] 40∧Only L W6 wx)
 case first =>
  go_region
  all_goals
   go_wp2_with fail
   go_meet
   have d0:Blk (W6.setCell ⟨L,4,none⟩ (.int .i64 (PL:Int))) L #[.int .i64 q2,.int .i64 t,.int .i64 11,.int .i64 (-1),.int .i64 (PL:Int),.int .i64 0,.int .i64 (-1),.int .i64 0,.int .i64 (-1),.int .i64 0] 40:=H6.out.1.blk.set 4 (.int .i64 (PL:Int))
   have d1:Blk ((W6.setCell ⟨L,4,none⟩ (.int .i64 (PL:Int))).setCell ⟨L,6,none⟩ (.int .i64 (op0 os).1)) L #[.int .i64 q2,.int .i64 t,.int .i64 11,.int .i64 (-1),.int .i64 (PL:Int),.int .i64 0,.int .i64 (op0 os).1,.int .i64 0,.int .i64 (-1),.int .i64 0] 40:=d0.set 6 (.int .i64 (op0 os).1)
   have d2:Blk (((W6.setCell ⟨L,4,none⟩ (.int .i64 (PL:Int))).setCell ⟨L,6,none⟩ (.int .i64 (op0 os).1)).setCell ⟨L,7,none⟩ (.int .i64 (op0 os).2)) L #[.int .i64 q2,.int .i64 t,.int .i64 11,.int .i64 (-1),.int .i64 (PL:Int),.int .i64 0,.int .i64 (op0 os).1,.int .i64 (op0 os).2,.int .i64 (-1),.int .i64 0] 40:=d1.set 7 (.int .i64 (op0 os).2)
   have d3:Blk ((((W6.setCell ⟨L,4,none⟩ (.int .i64 (PL:Int))).setCell ⟨L,6,none⟩ (.int .i64 (op0 os).1)).setCell ⟨L,7,none⟩ (.int .i64 (op0 os).2)).setCell ⟨L,8,none⟩ (.int .i64 (op1 os).1)) L #[.int .i64 q2,.int .i64 t,.int .i64 11,.int .i64 (-1),.int .i64 (PL:Int),.int .i64 0,.int .i64 (op0 os).1,.int .i64 (op0 os).2,.int .i64 (op1 os).1,.int .i64 0] 40:=d2.set 8 (.int .i64 (op1 os).1)
   have d4:Blk (((((W6.setCell ⟨L,4,none⟩ (.int .i64 (PL:Int))).setCell ⟨L,6,none⟩ (.int .i64 (op0 os).1)).setCell ⟨L,7,none⟩ (.int .i64 (op0 os).2)).setCell ⟨L,8,none⟩ (.int .i64 (op1 os).1)).setCell ⟨L,9,none⟩ (.int .i64 (op1 os).2)) L #[.int .i64 q2,.int .i64 t,.int .i64 11,.int .i64 (-1),.int .i64 (PL:Int),.int .i64 0,.int .i64 (op0 os).1,.int .i64 (op0 os).2,.int .i64 (op1 os).1,.int .i64 (op1 os).2] 40:=d3.set 9 (.int .i64 (op1 os).2)
   exact ⟨d4,((((((Only.refl L W6).setCell (p:=⟨L,4,none⟩) rfl (.int .i64 (PL:Int))).setCell (p:=⟨L,6,none⟩) rfl (.int .i64 (op0 os).1)).setCell (p:=⟨L,7,none⟩) rfl (.int .i64 (op0 os).2)).setCell (p:=⟨L,8,none⟩) rfl (.int .i64 (op1 os).1)).setCell (p:=⟨L,9,none⟩) rfl (.int .i64 (op1 os).2)).trans (Only.below (B:=L) (Below.refl _ _).drew)⟩
 case rest =>
  obtain ⟨hbc,hoc⟩:=hcut
  have hlc:=H6.out.2.1.tmp hk H6.out.1.base H6.out.1.row hoc
  have hkc:=H6.out.2.2.one hoc HGL.out
  have l2:=hbc.cell
  have HA:=zh (show Calls Tryz.prog 151 #[.pointer (some ⟨K.M,0,none⟩),.agg #[.int .i64 q2,.int .i64 t,.int .i64 11,.int .i64 (-1),.int .i64 (PL:Int),.int .i64 0,.int .i64 (op0 os).1,.int .i64 (op0 os).2,.int .i64 (op1 os).1,.int .i64 (op1 os).2]] wc (Lows K unitT r3 wc (s2.add ⟨q2,t,11,-1,(PL:Int),0,(op0 os).1,(op0 os).2,(op1 os).1,(op1 os).2⟩)) from cadd_any K hk s2 r3 ⟨q2,t,11,-1,(PL:Int),0,(op0 os).1,(op0 os).2,(op1 os).1,(op1 os).2⟩ wc hlc HH.out.2.2.1)
  have HC:=zh hkc
  clear hbc hoc hlc hkc o0 o1 o2 o3 l0 l1 hneO x1 hneX hl1 hl2 c0 hML
  go_wp2_with (first | (go_at_call 151;(with_reducible refine HA.out.mono ?_);rintro e w9 ⟨rfl,r9,hk9,h9⟩) | fail)
  go_end0
  exact ⟨rfl,r9,HC.out.trans hk9,h9⟩
theorem assume_any (K:Le) (hk:K.ok) (w0:World) (hH:w0.heap.size≤K.H0) (htab:TabK w0) (x:Nd) (hty:x.ty=.S) (hk1:kindN x=6) (hok:fmN x):StC K w0 111 x:=by
 intro us f t s r w hin hw h hf hd
 obtain ⟨ty,k,n,nm,xs,cs,ts,es⟩:=x
 simp only [Nd.ty] at hty
 subst hty
 have hkk:k=6:=hk1
 subst hkk
 have hsz:szN (.mk .S 6 n nm xs cs ts es)=1+(szL xs+(szL cs+(szL ts+szL es))):=by rw [szN]
 unfold fmN at hok
 obtain ⟨⟨-,-,-,-,hc1⟩,-,hfc,-⟩:=hok
 unfold NdIn at hin
 obtain ⟨hz,-,-,hnm,vx,vc,vt,ve,rfl,hxs,hcs,hts,hes⟩:=hin
 have hsx:∃ a c,vx=.slice a xs.length c:=by obtain ⟨a,c,h,-⟩:=hxs;exact ⟨a,c,h⟩
 have hst:∃ a c,vt=.slice a ts.length c:=by obtain ⟨a,c,h,-⟩:=hts;exact ⟨a,c,h⟩
 have hse:∃ a c,ve=.slice a es.length c:=by obtain ⟨a,c,h,-⟩:=hes;exact ⟨a,c,h⟩
 obtain ⟨ax,cx,rfl⟩:=hsx
 obtain ⟨aT,cT,rfl⟩:=hst
 obtain ⟨aE,cE,rfl⟩:=hse
 obtain ⟨ac,cc,rfl,-,-,hrow⟩:=hcs
 have i0:0<cs.length:=by have:=hc1 (by omega);omega
 obtain ⟨b0,o0,rfl,hrw⟩:=hrow.resolve_left (by omega)
 have hat:cnR (cdL K.E cs) 0=cdN K.E cs[0]:=cdL_at K.E cs 0 i0
 have hle:szN cs[0]≤szL cs:=by
  match cs,i0 with
  | x :: r,_=>simp only [szL,List.getElem_cons_zero];omega
 obtain ⟨htyc,hokc⟩:=fmL_at hfc 0 i0
 have hcnd:=cond_any K hk w0 hH htab _ cs[0] (Nat.le_refl _) htyc hokc
 have hgr:=cdN_gr K.E cs[0]
 change Calls _ _ #[_,.agg #[.int .i64 6,.string nm,.slice ax xs.length cx,.slice (some ⟨b0,o0,none⟩) cs.length cc,.slice aT ts.length cT,.slice aE es.length cE],_,_] w _
 rw [lwN]
 show Calls _ _ _ w (Lows K unitT r w (cnR (cdL K.E cs) 0 f t s.ext s))
 rw [hat]
 have hX0:=Tl.new h #[.int .i64 6,.string nm,.slice ax xs.length cx,.slice (some ⟨b0,o0,none⟩) cs.length cc,.slice aT ts.length cT,.slice aE es.length cE] 57
 have h1:=h.alloc hk (.cells #[.int .i64 6,.string nm,.slice ax xs.length cx,.slice (some ⟨b0,o0,none⟩) cs.length cc,.slice aT ts.length cT,.slice aE es.length cE] 57)
 have hkr:Kl K r r w (w.alloc (.cells #[.int .i64 6,.string nm,.slice ax xs.length cx,.slice (some ⟨b0,o0,none⟩) cs.length cc,.slice aT ts.length cT,.slice aE es.length cE] 57)):=(Kl.refl K r w).alloc _
 obtain ⟨W1,hW1⟩:∃ W1,w.alloc (.cells #[.int .i64 6,.string nm,.slice ax xs.length cx,.slice (some ⟨b0,o0,none⟩) cs.length cc,.slice aT ts.length cT,.slice aE es.length cE] 57)=W1:=⟨_,rfl⟩
 rw [hW1] at hX0 h1 hkr
 obtain ⟨X,hX⟩:∃ X,w.heap.size=X:=⟨_,rfl⟩
 rw [hX] at hX0
 have hold1:Below w0.heap.size w0 W1:=hw.trans ((hkr.old hk h).mono hH)
 rw [hsz] at hf hd
 have hfp:=hf.p
 have hfe:=hf.e
 have HF:=zh (za hfp (za hfe (za hd hle)))
 have HB:=zh (za hX0 (za h1 (za hkr (za hold1 (za h hw)))))
 have HE:=zh (za hW1 hX)
 have x0:=hX0.blk.cell
 have HT:=zh (za hts hes)
 have HCR:=zh (za hrw (za hcnd hgr))
 have hlb:(0:Int)<cs.length:=by omega
 clear hrw hat hle htyc hokc hcnd hgr
 clear hX0 h1 hkr hW1 hX hold1 h hw hf hd hfp hfe hsz hk1 hfc hc1 hxs hts hes htab hz hrow
 go_enter Tryz.func111,Tryz.ntmps111
 go_upto_region 1 with fail
 rw [HE.out.1,HE.out.2]
 have old1:Below w0.heap.size w0 W1:=HB.out.2.2.2.2.2.trans ((HB.out.2.2.1.old hk HB.out.2.2.2.2.1).mono hH)
 obtain ⟨fk,fn,fa2,fl2,fc2,fa,fl,fc,hnd,k0,k1,k2,k3⟩:=ccitem_at HCR.out.1 old1 0 i0
 simp only [Nat.zero_mul,Nat.add_zero] at k0 k1 k2 k3
 have HC:=zh (fun w hb h=>HCR.out.2.1 _ f t s.ext s r w hnd hb h ⟨by have:=HF.out;omega,by have:=HF.out;omega⟩ (by have:=HF.out;omega))
 have hc5:W1.cell? ⟨K.M,5,none⟩=some (.int .i64 s.ext):=by obtain ⟨ve,hm,he⟩:=HB.out.2.1;exact hm.mach.cell 5
 have x3:W1.cell? ⟨X,3,none⟩=some (.slice (some ⟨b0,o0,none⟩) cs.length cc):=x0 3
 have HO:=zh old1
 clear hnd old1 x0
 go_region_with (first | (go_at_call 154;(with_reducible refine (HC.out _ HO.out.drew (HB.out.2.1.drew hk)).mono ?_);rintro e w3 ⟨rfl,r3,hk3,h3⟩) | fail)
 all_goals
  go_wp2_with fail
  go_end0
  exact ⟨rfl,r3,HB.out.2.2.1.drew.trans hk3,h3⟩
theorem assert_any (K:Le) (hk:K.ok) (w0:World) (hH:w0.heap.size≤K.H0) (htab:TabK w0) (x:Nd) (hty:x.ty=.S) (hk1:kindN x=5) (hok:fmN x):StC K w0 110 x:=by
 intro us f t s r w hin hw h hf hd
 obtain ⟨ty,k,n,nm,xs,cs,ts,es⟩:=x
 simp only [Nd.ty] at hty
 subst hty
 have hkk:k=5:=hk1
 subst hkk
 have hsz:szN (.mk .S 5 n nm xs cs ts es)=1+(szL xs+(szL cs+(szL ts+szL es))):=by rw [szN]
 unfold fmN at hok
 obtain ⟨⟨-,-,-,-,hc1⟩,-,hfc,-⟩:=hok
 unfold NdIn at hin
 obtain ⟨hz,-,-,hnm,vx,vc,vt,ve,rfl,hxs,hcs,hts,hes⟩:=hin
 have hsx:∃ a c,vx=.slice a xs.length c:=by obtain ⟨a,c,h,-⟩:=hxs;exact ⟨a,c,h⟩
 have hst:∃ a c,vt=.slice a ts.length c:=by obtain ⟨a,c,h,-⟩:=hts;exact ⟨a,c,h⟩
 have hse:∃ a c,ve=.slice a es.length c:=by obtain ⟨a,c,h,-⟩:=hes;exact ⟨a,c,h⟩
 obtain ⟨ax,cx,rfl⟩:=hsx
 obtain ⟨aT,cT,rfl⟩:=hst
 obtain ⟨aE,cE,rfl⟩:=hse
 obtain ⟨ac,cc,rfl,-,-,hrow⟩:=hcs
 have i0:0<cs.length:=by have:=hc1 (by omega);omega
 obtain ⟨b0,o0,rfl,hrw⟩:=hrow.resolve_left (by omega)
 have hat:cnR (cdL K.E cs) 0=cdN K.E cs[0]:=cdL_at K.E cs 0 i0
 have hle:szN cs[0]≤szL cs:=by
  match cs,i0 with
  | x :: r,_=>simp only [szL,List.getElem_cons_zero];omega
 obtain ⟨htyc,hokc⟩:=fmL_at hfc 0 i0
 have hcnd:=cond_any K hk w0 hH htab _ cs[0] (Nat.le_refl _) htyc hokc
 have hgr:=cdN_gr K.E cs[0]
 change Calls _ _ #[_,.agg #[.int .i64 5,.string nm,.slice ax xs.length cx,.slice (some ⟨b0,o0,none⟩) cs.length cc,.slice aT ts.length cT,.slice aE es.length cE],_,_] w _
 rw [lwN]
 show Calls _ _ _ w (Lows K unitT r w (((cnR (cdL K.E cs) 0 f s.pts (s.pts+1) s.fresh.fresh).add (edgeE s.pts t 13)).add (edgeE (s.pts+1) t 14)))
 rw [hat]
 have hX0:=Tl.new h #[.int .i64 5,.string nm,.slice ax xs.length cx,.slice (some ⟨b0,o0,none⟩) cs.length cc,.slice aT ts.length cT,.slice aE es.length cE] 57
 have h1:=h.alloc hk (.cells #[.int .i64 5,.string nm,.slice ax xs.length cx,.slice (some ⟨b0,o0,none⟩) cs.length cc,.slice aT ts.length cT,.slice aE es.length cE] 57)
 have hkr:Kl K r r w (w.alloc (.cells #[.int .i64 5,.string nm,.slice ax xs.length cx,.slice (some ⟨b0,o0,none⟩) cs.length cc,.slice aT ts.length cT,.slice aE es.length cE] 57)):=(Kl.refl K r w).alloc _
 obtain ⟨W1,hW1⟩:∃ W1,w.alloc (.cells #[.int .i64 5,.string nm,.slice ax xs.length cx,.slice (some ⟨b0,o0,none⟩) cs.length cc,.slice aT ts.length cT,.slice aE es.length cE] 57)=W1:=⟨_,rfl⟩
 rw [hW1] at hX0 h1 hkr
 obtain ⟨X,hX⟩:∃ X,w.heap.size=X:=⟨_,rfl⟩
 rw [hX] at hX0
 have hold1:Below w0.heap.size w0 W1:=hw.trans ((hkr.old hk h).mono hH)
 rw [hsz] at hf hd
 have hfp:=hf.p
 have hfe:=hf.e
 have HF:=zh (za hfp (za hfe (za hd hle)))
 have HB:=zh (za hX0 (za h1 (za hkr (za hold1 (za h hw)))))
 have HE:=zh (za hW1 hX)
 have x0:=hX0.blk.cell
 have HT:=zh (za hts hes)
 have HCR:=zh (za hrw (za hcnd hgr))
 have hlb:(0:Int)<cs.length:=by omega
 clear hrw hat hle htyc hokc hcnd hgr
 clear hX0 h1 hkr hW1 hX hold1 h hw hf hd hfp hfe hsz hk1 hfc hc1 hxs hts hes htab hz hrow
 go_enter Tryz.func110,Tryz.ntmps110
 go_upto_region 1 with fail
 rw [HE.out.1,HE.out.2]
 have HFA:=zh (show Calls Tryz.prog 37 #[.pointer (some ⟨K.M,0,none⟩)] W1 (Lows K (.int .i64 s.pts) r W1 s.fresh) from fresh_any K hk s r W1 HB.out.2.1 ⟨by have:=HF.out;omega,by have:=HF.out;omega⟩)
 have HFB:=zh (fun r w (h:La K w s.fresh r)=>show Calls Tryz.prog 37 #[.pointer (some ⟨K.M,0,none⟩)] w (Lows K (.int .i64 (s.pts+1)) r w s.fresh.fresh) from fresh_any K hk s.fresh r w h ⟨by have:=HF.out;show s.pts+1+_≤_;omega,by have:=HF.out;show s.eds.length+_≤_;omega⟩)
 go_upto_region 2 with (first | (go_at_call 37;first | ((with_reducible refine (HFB.out _ _ H3.out.2).mono ?_);rintro e w4 ⟨rfl,r4,hk4,h4⟩;have H4:=zh (za hk4 h4);clear hk4 h4) | ((with_reducible refine HFA.out.mono ?_);rintro e w3 ⟨rfl,r3,hk3,h3⟩;have H3:=zh (za hk3 h3);clear hk3 h3 x0) | fail) | fail)
 have hkr4:=(HB.out.2.2.1.trans H3.out.1).trans H4.out.1
 have old4:Below w0.heap.size w0 w4:=HB.out.2.2.2.2.2.trans ((hkr4.old hk HB.out.2.2.2.2.1).mono hH)
 obtain ⟨fk,fn,fa2,fl2,fc2,fa,fl,fc,hnd,k0,k1,k2,k3⟩:=ccitem_at HCR.out.1 old4 0 i0
 simp only [Nat.zero_mul,Nat.add_zero] at k0 k1 k2 k3
 have x4:=((HB.out.1.kr hk H3.out.1).kr hk H4.out.1).blk.cell
 have HC:=zh (HCR.out.2.1 _ f s.pts (s.pts+1) s.fresh.fresh r4 w4 hnd old4 H4.out.2 ⟨by have:=HF.out;show s.pts+1+1+_≤_;omega,by have:=HF.out;show s.eds.length+_≤_;omega⟩ (by have:=HF.out;omega))
 have hg:=HCR.out.2.2 f s.pts (s.pts+1) s.fresh.fresh
 obtain ⟨s5,hs5⟩:∃ z,cdN K.E cs[0] f s.pts (s.pts+1) s.fresh.fresh=z:=⟨_,rfl⟩
 rw [hs5] at hg
 simp only [hs5] at HC ⊢
 have hf5:Few s5 2:=⟨by have:=HF.out;have:=hg.p1;have e:s.fresh.fresh.pts=s.pts+1+1:=rfl;rw [e] at this;omega,by have:=HF.out;have:=hg.e1;have e:s.fresh.fresh.eds=s.eds:=rfl;rw [e] at this;omega⟩
 have HED1:=zh (fun w=>cedge_any s.pts t 13 w)
 have HAD1:=zh (fun r w (h:La K w s5 r)=>lay_edge K hk s5 r s.pts t 13 w h ⟨by have:=hf5.p;omega,by have:=hf5.e;omega⟩)
 have HED2:=zh (fun w=>cedge_any (s.pts+1) t 14 w)
 have HAD2:=zh (fun r w (h:La K w (s5.add (edgeE s.pts t 13)) r)=>lay_edge K hk (s5.add (edgeE s.pts t 13)) r (s.pts+1) t 14 w h ⟨by have:=hf5.p;show s5.pts+_≤_;omega,by have:=hf5.e;simp only [Lw.add,List.length_append,List.length_singleton];omega⟩)
 have HKR:=zh hkr4
 have HS5:=zh hs5
 clear hkr4 hnd old4 hg hs5 hf5 HFA HFB
 go_upto_region 3 with (first | (go_at_call 154;(with_reducible refine HC.out.mono ?_);rintro e w5 ⟨rfl,r5,hk5,h5⟩;have H5:=zh (za hk5 h5);clear hk5 h5 x4 k0 k1 k2 k3) | fail)
 go_upto_region 4 with (first | (go_at_call 150;(with_reducible refine (HED1.out _).mono ?_);rintro e w6 ⟨rfl,hb6⟩;have HB6:=zh hb6;clear hb6) | (go_at_call 151;(with_reducible refine (HAD1.out _ _ (H5.out.2.next hk HB6.out)).mono ?_);rintro e w7 ⟨rfl,r7,hk7,h7⟩;have H7:=zh (za hk7 h7);clear hk7 h7) | fail)
 go_wp2_with (first | (go_at_call 150;(with_reducible refine (HED2.out _).mono ?_);rintro e w8 ⟨rfl,hb8⟩;have HB8:=zh hb8;clear hb8) | (go_at_call 151;(with_reducible refine (HAD2.out _ _ (H7.out.2.next hk HB8.out)).mono ?_);rintro e w9 ⟨rfl,r9,hk9,h9⟩) | fail)
 go_end0
 rw [HS5.out]
 exact ⟨rfl,r9,((((HKR.out.trans H5.out.1).trans (Kl.below HB6.out)).trans H7.out.1).trans (Kl.below HB8.out)).trans hk9,h9⟩
theorem loop_any (K:Le) (hk:K.ok) (w0:World) (hH:w0.heap.size≤K.H0) (htab:TabK w0) (x:Nd) (hty:x.ty=.S) (hk1:kindN x=4) (hok:fmN x) (hbT:BlkC K w0 (thenN x)):StC K w0 109 x:=by
 intro us f t s r w hin hw h hf hd
 obtain ⟨ty,k,n,nm,xs,cs,ts,es⟩:=x
 simp only [Nd.ty] at hty
 subst hty
 have hkk:k=4:=hk1
 subst hkk
 have hsz:szN (.mk .S 4 n nm xs cs ts es)=1+(szL xs+(szL cs+(szL ts+szL es))):=by rw [szN]
 unfold fmN at hok
 obtain ⟨⟨-,-,-,-,hc1⟩,-,hfc,-⟩:=hok
 unfold NdIn at hin
 obtain ⟨hz,-,-,hnm,vx,vc,vt,ve,rfl,hxs,hcs,hts,hes⟩:=hin
 have hsx:∃ a c,vx=.slice a xs.length c:=by obtain ⟨a,c,h,-⟩:=hxs;exact ⟨a,c,h⟩
 have hst:∃ a c,vt=.slice a ts.length c:=by obtain ⟨a,c,h,-⟩:=hts;exact ⟨a,c,h⟩
 have hse:∃ a c,ve=.slice a es.length c:=by obtain ⟨a,c,h,-⟩:=hes;exact ⟨a,c,h⟩
 obtain ⟨ax,cx,rfl⟩:=hsx
 obtain ⟨aT,cT,rfl⟩:=hst
 obtain ⟨aE,cE,rfl⟩:=hse
 obtain ⟨ac,cc,rfl,-,-,hrow⟩:=hcs
 have i0:0<cs.length:=by have:=hc1 (by omega);omega
 obtain ⟨b0,o0,rfl,hrw⟩:=hrow.resolve_left (by omega)
 have hat:cnR (cdL K.E cs) 0=cdN K.E cs[0]:=cdL_at K.E cs 0 i0
 have hle:szN cs[0]≤szL cs:=by
  match cs,i0 with
  | x :: r,_=>simp only [szL,List.getElem_cons_zero];omega
 obtain ⟨htyc,hokc⟩:=fmL_at hfc 0 i0
 have hcnd:=cond_any K hk w0 hH htab _ cs[0] (Nat.le_refl _) htyc hokc
 have hgr:=cdN_gr K.E cs[0]
 change Calls _ _ #[_,.agg #[.int .i64 4,.string nm,.slice ax xs.length cx,.slice (some ⟨b0,o0,none⟩) cs.length cc,.slice aT ts.length cT,.slice aE es.length cE],_,_] w _
 rw [lwN]
 show Calls _ _ _ w (Lows K unitT r w (blkF ts.length (lwL K.E ts) (begP ts.isEmpty f s) f (cnR (cdL K.E cs) 0 f (begP ts.isEmpty f s) t (begS ts.isEmpty s))))
 rw [hat]
 have hX0:=Tl.new h #[.int .i64 4,.string nm,.slice ax xs.length cx,.slice (some ⟨b0,o0,none⟩) cs.length cc,.slice aT ts.length cT,.slice aE es.length cE] 57
 have h1:=h.alloc hk (.cells #[.int .i64 4,.string nm,.slice ax xs.length cx,.slice (some ⟨b0,o0,none⟩) cs.length cc,.slice aT ts.length cT,.slice aE es.length cE] 57)
 have hkr:Kl K r r w (w.alloc (.cells #[.int .i64 4,.string nm,.slice ax xs.length cx,.slice (some ⟨b0,o0,none⟩) cs.length cc,.slice aT ts.length cT,.slice aE es.length cE] 57)):=(Kl.refl K r w).alloc _
 obtain ⟨W1,hW1⟩:∃ W1,w.alloc (.cells #[.int .i64 4,.string nm,.slice ax xs.length cx,.slice (some ⟨b0,o0,none⟩) cs.length cc,.slice aT ts.length cT,.slice aE es.length cE] 57)=W1:=⟨_,rfl⟩
 rw [hW1] at hX0 h1 hkr
 obtain ⟨X,hX⟩:∃ X,w.heap.size=X:=⟨_,rfl⟩
 rw [hX] at hX0
 have hold1:Below w0.heap.size w0 W1:=hw.trans ((hkr.old hk h).mono hH)
 rw [hsz] at hf hd
 have hfp:=hf.p
 have hfe:=hf.e
 have HF:=zh (za hfp (za hfe (za hd hle)))
 have HB:=zh (za hX0 (za h1 (za hkr (za hold1 (za h hw)))))
 have HE:=zh (za hW1 hX)
 have x0:=hX0.blk.cell
 have HT:=zh (za hts hes)
 have HCR:=zh (za hrw (za hcnd hgr))
 have hlb:(0:Int)<cs.length:=by omega
 clear hrw hat hle htyc hokc hcnd hgr
 clear hX0 h1 hkr hW1 hX hold1 h hw hf hd hfp hfe hsz hk1 hfc hc1 hxs hts hes htab hz hrow
 go_enter Tryz.func109,Tryz.ntmps109
 go_upto_region 1 with fail
 rw [HE.out.1,HE.out.2]
 have HBG:=zh (beginning_any K hk s r ts _ f w0 W1 HT.out.1 HB.out.2.1 ⟨by have:=HF.out;omega,by have:=HF.out;omega⟩)
 have hgb:=Gw.beg ts.isEmpty s
 obtain ⟨p2,hp2⟩:∃ z,begP ts.isEmpty f s=z:=⟨_,rfl⟩
 obtain ⟨s2,hs2⟩:∃ z,begS ts.isEmpty s=z:=⟨_,rfl⟩
 rw [hs2] at hgb
 simp only [hp2,hs2] at HBG ⊢
 have HGB:=zh hgb
 have HP2:=zh hp2
 have HS2:=zh hs2
 clear hp2 hs2 hgb
 go_upto_region 2 with (first | (go_at_call 38;(with_reducible refine HBG.out.mono ?_);rintro e w3 ⟨rfl,r3,hk3,h3⟩;have H3:=zh (za hk3 h3);clear hk3 h3 x0) | fail)
 have hkr3:=HB.out.2.2.1.trans H3.out.1
 have old3:Below w0.heap.size w0 w3:=HB.out.2.2.2.2.2.trans ((hkr3.old hk HB.out.2.2.2.2.1).mono hH)
 obtain ⟨fk,fn,fa2,fl2,fc2,fa,fl,fc,hnd,k0,k1,k2,k3⟩:=ccitem_at HCR.out.1 old3 0 i0
 simp only [Nat.zero_mul,Nat.add_zero] at k0 k1 k2 k3
 have x3:=(HB.out.1.kr hk H3.out.1).blk.cell
 have HC:=zh (HCR.out.2.1 _ f p2 t s2 r3 w3 hnd old3 H3.out.2 ⟨by have:=HF.out;have:=HGB.out.p1;omega,by have:=HF.out;have:=HGB.out.e1;omega⟩ (by have:=HF.out;omega))
 have hg:=HCR.out.2.2 f p2 t s2
 obtain ⟨s4,hs4⟩:∃ z,cdN K.E cs[0] f p2 t s2=z:=⟨_,rfl⟩
 rw [hs4] at hg
 simp only [hs4] at HC ⊢
 have HKR:=zh (za hkr3 hg)
 have HS4:=zh hs4
 clear hkr3 hnd old3 hg hs4 HBG
 go_upto_region 3 with (first | (go_at_call 154;(with_reducible refine HC.out.mono ?_);rintro e w5 ⟨rfl,r5,hk5,h5⟩;have H5:=zh (za hk5 h5);clear hk5 h5 x3 k0 k1 k2 k3) | fail)
 have hkr5:=HKR.out.1.trans H5.out.1
 have old5:Below w0.heap.size w0 w5:=HB.out.2.2.2.2.2.trans ((hkr5.old hk HB.out.2.2.2.2.1).mono hH)
 have x5:=((HB.out.1.kr hk H3.out.1).kr hk H5.out.1).blk.cell
 have HBL:=zh (hbT _ p2 f s4 r5 w5 HT.out.1 old5 H5.out.2 ⟨by have:=HF.out;have:=HGB.out.p1;have:=HKR.out.2.p1;show _+((8 * szL ts:Nat):Int)≤_;omega,by have:=HF.out;have:=HGB.out.e1;have:=HKR.out.2.e1;show _+8 * szL ts≤_;omega⟩ (by have:=HF.out;show szL ts≤_;omega))
 have HK5:=zh hkr5
 clear hkr5 old5
 go_wp2_with (first | (go_at_call 39;(with_reducible refine HBL.out.mono ?_);rintro e w6 ⟨rfl,r6,hk6,h6⟩) | fail)
 go_end0
 rw [HP2.out,HS2.out,HS4.out]
 exact ⟨rfl,r6,HK5.out.trans hk6,h6⟩
theorem branch_any (K:Le) (hk:K.ok) (w0:World) (hH:w0.heap.size≤K.H0) (htab:TabK w0) (x:Nd) (hty:x.ty=.S) (hk1:kindN x=3) (hok:fmN x) (hbT:BlkC K w0 (thenN x)) (hbE:BlkC K w0 (elseN x)):StC K w0 108 x:=by
 intro us f t s r w hin hw h hf hd
 obtain ⟨ty,k,n,nm,xs,cs,ts,es⟩:=x
 simp only [Nd.ty] at hty
 subst hty
 have hkk:k=3:=hk1
 subst hkk
 have hsz:szN (.mk .S 3 n nm xs cs ts es)=1+(szL xs+(szL cs+(szL ts+szL es))):=by rw [szN]
 unfold fmN at hok
 obtain ⟨⟨-,-,-,-,hc1⟩,-,hfc,-⟩:=hok
 unfold NdIn at hin
 obtain ⟨hz,-,-,hnm,vx,vc,vt,ve,rfl,hxs,hcs,hts,hes⟩:=hin
 have hsx:∃ a c,vx=.slice a xs.length c:=by obtain ⟨a,c,h,-⟩:=hxs;exact ⟨a,c,h⟩
 have hst:∃ a c,vt=.slice a ts.length c:=by obtain ⟨a,c,h,-⟩:=hts;exact ⟨a,c,h⟩
 have hse:∃ a c,ve=.slice a es.length c:=by obtain ⟨a,c,h,-⟩:=hes;exact ⟨a,c,h⟩
 obtain ⟨ax,cx,rfl⟩:=hsx
 obtain ⟨aT,cT,rfl⟩:=hst
 obtain ⟨aE,cE,rfl⟩:=hse
 obtain ⟨ac,cc,rfl,-,-,hrow⟩:=hcs
 have i0:0<cs.length:=by have:=hc1 (by omega);omega
 obtain ⟨b0,o0,rfl,hrw⟩:=hrow.resolve_left (by omega)
 have hat:cnR (cdL K.E cs) 0=cdN K.E cs[0]:=cdL_at K.E cs 0 i0
 have hle:szN cs[0]≤szL cs:=by
  match cs,i0 with
  | x :: r,_=>simp only [szL,List.getElem_cons_zero];omega
 obtain ⟨htyc,hokc⟩:=fmL_at hfc 0 i0
 have hcnd:=cond_any K hk w0 hH htab _ cs[0] (Nat.le_refl _) htyc hokc
 have hgr:=cdN_gr K.E cs[0]
 change Calls _ _ #[_,.agg #[.int .i64 3,.string nm,.slice ax xs.length cx,.slice (some ⟨b0,o0,none⟩) cs.length cc,.slice aT ts.length cT,.slice aE es.length cE],_,_] w _
 rw [lwN]
 show Calls _ _ _ w (Lows K unitT r w (blkF es.length (lwL K.E es) (begP es.isEmpty t (begS ts.isEmpty s)) t (blkF ts.length (lwL K.E ts) (begP ts.isEmpty t s) t (cnR (cdL K.E cs) 0 f (begP ts.isEmpty t s) (begP es.isEmpty t (begS ts.isEmpty s)) (begS es.isEmpty (begS ts.isEmpty s))))))
 rw [hat]
 have hX0:=Tl.new h #[.int .i64 3,.string nm,.slice ax xs.length cx,.slice (some ⟨b0,o0,none⟩) cs.length cc,.slice aT ts.length cT,.slice aE es.length cE] 57
 have h1:=h.alloc hk (.cells #[.int .i64 3,.string nm,.slice ax xs.length cx,.slice (some ⟨b0,o0,none⟩) cs.length cc,.slice aT ts.length cT,.slice aE es.length cE] 57)
 have hkr:Kl K r r w (w.alloc (.cells #[.int .i64 3,.string nm,.slice ax xs.length cx,.slice (some ⟨b0,o0,none⟩) cs.length cc,.slice aT ts.length cT,.slice aE es.length cE] 57)):=(Kl.refl K r w).alloc _
 obtain ⟨W1,hW1⟩:∃ W1,w.alloc (.cells #[.int .i64 3,.string nm,.slice ax xs.length cx,.slice (some ⟨b0,o0,none⟩) cs.length cc,.slice aT ts.length cT,.slice aE es.length cE] 57)=W1:=⟨_,rfl⟩
 rw [hW1] at hX0 h1 hkr
 obtain ⟨X,hX⟩:∃ X,w.heap.size=X:=⟨_,rfl⟩
 rw [hX] at hX0
 have hold1:Below w0.heap.size w0 W1:=hw.trans ((hkr.old hk h).mono hH)
 rw [hsz] at hf hd
 have hfp:=hf.p
 have hfe:=hf.e
 have HF:=zh (za hfp (za hfe (za hd hle)))
 have HB:=zh (za hX0 (za h1 (za hkr (za hold1 (za h hw)))))
 have HE:=zh (za hW1 hX)
 have x0:=hX0.blk.cell
 have HT:=zh (za hts hes)
 have HCR:=zh (za hrw (za hcnd hgr))
 have hlb:(0:Int)<cs.length:=by omega
 clear hrw hat hle htyc hokc hcnd hgr
 clear hX0 h1 hkr hW1 hX hold1 h hw hf hd hfp hfe hsz hk1 hfc hc1 hxs hts hes htab hz hrow
 go_enter Tryz.func108,Tryz.ntmps108
 go_upto_region 1 with fail
 rw [HE.out.1,HE.out.2]
 have HBG:=zh (beginning_any K hk s r ts _ t w0 W1 HT.out.1 HB.out.2.1 ⟨by have:=HF.out;omega,by have:=HF.out;omega⟩)
 have hgb:=Gw.beg ts.isEmpty s
 obtain ⟨p2,hp2⟩:∃ z,begP ts.isEmpty t s=z:=⟨_,rfl⟩
 obtain ⟨s2,hs2⟩:∃ z,begS ts.isEmpty s=z:=⟨_,rfl⟩
 rw [hs2] at hgb
 simp only [hp2,hs2] at HBG ⊢
 have HGB:=zh hgb
 have HP2:=zh hp2
 have HS2:=zh hs2
 clear hp2 hs2 hgb
 have HBG2:=zh (fun r w (h:La K w s2 r)=>beginning_any K hk s2 r es _ t w0 w HT.out.2 h ⟨by have:=HF.out;have:=HGB.out.p1;omega,by have:=HF.out;have:=HGB.out.e1;omega⟩)
 have hgb:=Gw.beg es.isEmpty s2
 obtain ⟨p3,hp3⟩:∃ z,begP es.isEmpty t s2=z:=⟨_,rfl⟩
 obtain ⟨s3,hs3⟩:∃ z,begS es.isEmpty s2=z:=⟨_,rfl⟩
 rw [hs3] at hgb
 simp only [hp3,hs3] at HBG2 ⊢
 have HGB2:=zh hgb
 have HP3:=zh hp3
 have HS3:=zh hs3
 clear hp3 hs3 hgb
 go_upto_region 2 with (first | (go_at_call 38;(with_reducible refine HBG.out.mono ?_);rintro e w2 ⟨rfl,r2,hk2,h2⟩;have H2:=zh (za hk2 h2);clear hk2 h2 x0) | fail)
 have x2:=(HB.out.1.kr hk H2.out.1).blk.cell
 go_upto_region 3 with (first | (go_at_call 38;(with_reducible refine (HBG2.out _ _ H2.out.2).mono ?_);rintro e w3 ⟨rfl,r3,hk3,h3⟩;have H3:=zh (za hk3 h3);clear hk3 h3 x2) | fail)
 have hkr3:=(HB.out.2.2.1.trans H2.out.1).trans H3.out.1
 have old3:Below w0.heap.size w0 w3:=HB.out.2.2.2.2.2.trans ((hkr3.old hk HB.out.2.2.2.2.1).mono hH)
 obtain ⟨fk,fn,fa2,fl2,fc2,fa,fl,fc,hnd,k0,k1,k2,k3⟩:=ccitem_at HCR.out.1 old3 0 i0
 simp only [Nat.zero_mul,Nat.add_zero] at k0 k1 k2 k3
 have x3:=((HB.out.1.kr hk H2.out.1).kr hk H3.out.1).blk.cell
 have HC:=zh (HCR.out.2.1 _ f p2 p3 s3 r3 w3 hnd old3 H3.out.2 ⟨by have:=HF.out;have:=HGB.out.p1;have:=HGB2.out.p1;omega,by have:=HF.out;have:=HGB.out.e1;have:=HGB2.out.e1;omega⟩ (by have:=HF.out;omega))
 have hg:=HCR.out.2.2 f p2 p3 s3
 obtain ⟨s4,hs4⟩:∃ z,cdN K.E cs[0] f p2 p3 s3=z:=⟨_,rfl⟩
 rw [hs4] at hg
 simp only [hs4] at HC ⊢
 have HKR:=zh (za hkr3 (za hg ((HB.out.1.kr hk H2.out.1).kr hk H3.out.1)))
 have HS4:=zh hs4
 clear hkr3 hnd old3 hg hs4 HBG HBG2
 go_upto_region 4 with (first | (go_at_call 154;(with_reducible refine HC.out.mono ?_);rintro e w5 ⟨rfl,r5,hk5,h5⟩;have H5:=zh (za hk5 h5);clear hk5 h5 x3 k0 k1 k2 k3) | fail)
 have hkr5:=HKR.out.1.trans H5.out.1
 have old5:Below w0.heap.size w0 w5:=HB.out.2.2.2.2.2.trans ((hkr5.old hk HB.out.2.2.2.2.1).mono hH)
 have hX5:=HKR.out.2.2.kr hk H5.out.1
 have x5:=hX5.blk.cell
 have HBL:=zh (show Calls Tryz.prog 39 _ w5 (Lows K unitT r5 w5 (blkF ts.length (lwL K.E ts) p2 t s4)) from hbT _ p2 t s4 r5 w5 HT.out.1 old5 H5.out.2 ⟨by have:=HF.out;have:=HGB.out.p1;have:=HGB2.out.p1;have:=HKR.out.2.1.p1;show _+((8 * szL ts:Nat):Int)≤_;omega,by have:=HF.out;have:=HGB.out.e1;have:=HGB2.out.e1;have:=HKR.out.2.1.e1;show _+8 * szL ts≤_;omega⟩ (by have:=HF.out;show szL ts≤_;omega))
 have hg:=lwB_gr K.E ts p2 t s4
 unfold lwB at hg
 obtain ⟨s6,hs6⟩:∃ z,blkF ts.length (lwL K.E ts) p2 t s4=z:=⟨_,rfl⟩
 rw [hs6] at hg
 simp only [hs6] at HBL ⊢
 have HK5:=zh (za hkr5 (za hg hX5))
 have HS6:=zh hs6
 clear hkr5 old5 hg hs6 hX5
 go_upto_region 5 with (first | (go_at_call 39;(with_reducible refine HBL.out.mono ?_);rintro e w6 ⟨rfl,r6,hk6,h6⟩;have H6:=zh (za hk6 h6);clear hk6 h6 x5) | fail)
 have hkr6:=HK5.out.1.trans H6.out.1
 have old6:Below w0.heap.size w0 w6:=HB.out.2.2.2.2.2.trans ((hkr6.old hk HB.out.2.2.2.2.1).mono hH)
 have x6:=(HK5.out.2.2.kr hk H6.out.1).blk.cell
 have HBL2:=zh (hbE _ p3 t s6 r6 w6 HT.out.2 old6 H6.out.2 ⟨by have:=HF.out;have:=HGB.out.p1;have:=HGB2.out.p1;have:=HKR.out.2.1.p1;have:=HK5.out.2.1.p1;show _+((8 * szL es:Nat):Int)≤_;omega,by have:=HF.out;have:=HGB.out.e1;have:=HGB2.out.e1;have:=HKR.out.2.1.e1;have:=HK5.out.2.1.e1;show _+8 * szL es≤_;omega⟩ (by have:=HF.out;show szL es≤_;omega))
 have HK6:=zh hkr6
 clear hkr6 old6 HBL
 go_wp2_with (first | (go_at_call 39;(with_reducible refine HBL2.out.mono ?_);rintro e w7 ⟨rfl,r7,hk7,h7⟩) | fail)
 go_end0
 rw [HP2.out,HS2.out,HP3.out,HS3.out,HS4.out,HS6.out]
 exact ⟨rfl,r7,HK6.out.trans hk7,h7⟩
end Go.Proofs.YtmohmggnjldddaaGreatDoor
