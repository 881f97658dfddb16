/-
  The lowering's other statements: proved is that they lay the plain edges, if their blocks do.
-/
import Derived.Test.YtmohmggnjldddaaGreatDoorQCfgH
import Derived.Test.YtmohmggnjldddaaGreatDoorQAbb
namespace Go.Proofs.YtmohmggnjldddaaGreatDoor
set_option maxHeartbeats 8000000
set_option maxRecDepth 100000
open Go Go.RowKit Go.Maps
theorem ccitem_at {w0 w:World} {cs:List Nd} {b0 o0:Nat} (hr:RowIn w0 .C cs b0 o0) (hb:Below w0.heap.size w0 w) (i:Nat) (hi:i<cs.length):∃ k n a2 len2 c2 a len c,NdIn w0 cs[i] [.int .i64 k,.int .i64 n,.slice a2 len2 c2,.slice a len c]∧w.cell? ⟨b0,o0+i * 4,none⟩=some (.int .i64 k)∧w.cell? ⟨b0,o0+i * 4+1,none⟩=some (.int .i64 n)∧w.cell? ⟨b0,o0+i * 4+2,none⟩=some (.slice a2 len2 c2)∧w.cell? ⟨b0,o0+i * 4+3,none⟩=some (.slice a len c):=by
 obtain ⟨hty,vs,hc,hnd⟩:=RowIn.at cs b0 o0 i hi hr
 have hl:=hnd.len
 rw [hty] at hl
 obtain ⟨v0,v1,v2,v3,rfl⟩:∃ a b c d,vs=[a,b,c,d]:=by
  match vs,hl with
  | [a,b,c,d],_=>exact ⟨_,_,_,_,rfl⟩
 obtain ⟨k,n,a2,len2,c2,a,len,c,rfl,rfl,rfl,rfl⟩:=NdIn.formC hty hnd
 have kk:=keeps_below hb
 exact ⟨k,n,a2,len2,c2,a,len,c,hnd,kk _ _ _ (hc 0 _ rfl),kk _ _ _ (hc 1 _ rfl),kk _ _ _ (hc 2 _ rfl),kk _ _ _ (hc 3 _ rfl)⟩
theorem lay_edge (K:Le) (hk:K.ok) (s:Lw) (r:Option Nat) (f t k:Int) (w:World) (h:La K w s r) (hf:Few s 1) :
    Calls Tryz.prog 151 #[.pointer (some ⟨K.M,0,none⟩),edgeV (edgeE f t k)] w (Lows K unitT r w (s.add (edgeE f t k))):=cadd_any K hk s r _ w h hf
def CndC (K:Le) (w0:World) (x:Nd):Prop:=∀ (us:List Value) (f y n:Int) (s:Lw) (r:Option Nat) (w:World),NdIn w0 x us→Below w0.heap.size w0 w→La K w s r→Few s (4 * szN x)→szN x≤1099511627776 →
 Calls Tryz.prog 154 #[.pointer (some ⟨K.M,0,none⟩),.agg us.toArray,.int .i64 f,.int .i64 y,.int .i64 n] w (Lows K unitT r w (cdN K.E x f y n s))
theorem cond_any (K:Le) (hk:K.ok) (w0:World) (hH:w0.heap.size≤K.H0) (htab:TabK w0):∀ (N:Nat) (x:Nd),SizeOf.sizeOf x≤N→x.ty=.C→fmN x→CndC K w0 x:=by
 intro N
 induction N with
 | zero =>
   intro x hN
   obtain ⟨ty,k,n,nm,xs,cs,ts,es⟩:=x
   simp only [Nd.mk.sizeOf_spec] at hN
   omega
 | succ N ih =>
   intro x hN hty hok us f y n s r w hin hw h hf hd
   obtain ⟨ty,k,op,nm,xs,cs,ts,es⟩:=x
   simp only [Nd.mk.sizeOf_spec] at hN
   simp only [Nd.ty] at hty
   subst hty
   have hsz:szN (.mk .C k op nm xs cs ts es)=1+(szL xs+(szL cs+(szL ts+szL es))):=by rw [szN]
   unfold fmN at hok
   obtain ⟨⟨hk1,hk6,hx3,hc4,hc5⟩,hfx,hfc,-⟩:=hok
   have hch:∀ i (hi:i<cs.length),CndC K w0 cs[i]:=fun i hi=>ih cs[i] (by have:=List.sizeOf_lt_of_mem (List.getElem_mem (l:=cs) (n:=i) hi);omega) (fmL_at hfc i hi).1 (fmL_at hfc i hi).2
   have hsa:∀ i (hi:i<cs.length),szN cs[i]=szA cs i:=fun i hi=>by unfold szA;rw [List.getElem?_eq_getElem hi]
   have hsl:=szA_le cs
   have hat:=fun i (hi:i<cs.length)=>cdL_at K.E cs i hi
   clear ih hN
   unfold NdIn at hin
   obtain ⟨hz,-,-,-,vx,vc,vt,ve,rfl,hxs,hcs,-⟩:=hin
   simp only [fits] at hz
   obtain ⟨rfl,rfl,rfl⟩:=hz
   have hsv:∃ a c,vx=.slice a xs.length c:=by obtain ⟨a,c,h,-⟩:=hxs;exact ⟨a,c,h⟩
   obtain ⟨ax,cx,rfl⟩:=hsv
   obtain ⟨ac,cc,rfl,-,-,hrow⟩:=hcs
   change Calls _ _ #[_,.agg #[.int .i64 k,.int .i64 op,.slice ax xs.length cx,.slice ac cs.length cc],_,_,_] w _
   rw [cdN]
   have hX0:=Tl.new h #[.int .i64 k,.int .i64 op,.slice ax xs.length cx,.slice ac cs.length cc] 150
   have h1:=h.alloc hk (.cells #[.int .i64 k,.int .i64 op,.slice ax xs.length cx,.slice ac cs.length cc] 150)
   have hkr:Kl K r r w (w.alloc (.cells #[.int .i64 k,.int .i64 op,.slice ax xs.length cx,.slice ac cs.length cc] 150)):=(Kl.refl K r w).alloc _
   obtain ⟨W1,hW1⟩:∃ W1,w.alloc (.cells #[.int .i64 k,.int .i64 op,.slice ax xs.length cx,.slice ac cs.length cc] 150)=W1:=⟨_,rfl⟩
   rw [hW1] at hX0 h1 hkr
   obtain ⟨X,hX⟩:∃ X,w.heap.size=X:=⟨_,rfl⟩
   rw [hX] at hX0
   have hold1:Below w0.heap.size w0 W1:=hw.trans ((hkr.old hk h).mono hH)
   have x0:=hX0.blk.cell
   rw [hsz] at hf hd
   have hfp:=hf.p
   have hfe:=hf.e
   simp only [szL,Nat.add_zero] at hfp hfe hd
   have HF:=zh (za hfp (za hfe (za hd hsl)))
   have HB:=zh (za hX0 (za h1 (za hkr (za hold1 (za h hw)))))
   have HE:=zh (za hW1 hX)
   have HCH:=zh (za hch (za hsa hat))
   have HROW:=zh hrow
   have HCMP:=zh (fun (hl:xs.length=2) (hf:Few s (4 * szL xs+4)) (hd:szL xs≤1099511627776)=>compare_any K hk w0 hH htab k op xs hl hfx _ hxs ac cs.length cc f y n s r W1 hold1 h1 hf hd)
   have HLN:=zh (za hx3 (za hc4 hc5))
   clear hX0 h1 hkr hW1 hX hold1 h hw hf hfp hfe hd hsl hch hsa hat hrow hxs hfx hfc hsz htab hx3 hc4 hc5
   have hcase:k=1∨k=2∨k=3∨k=4∨k=5∨k=6:=by omega
   clear hk1 hk6
   have HED:=zh (fun t w=>cedge_any f t 1 w)
   rcases hcase with rfl | rfl | rfl | rfl | rfl | rfl
   · show Calls _ _ _ w (Lows K unitT r w (s.add (edgeE f y 1)))
     have HAD:=zh (fun r w (h:La K w s r)=>lay_edge K hk s r f y 1 w h ⟨by have:=HF.out;omega,by have:=HF.out;omega⟩)
     go_enter Tryz.func154,Tryz.ntmps154
     go_upto_region 1 with fail
     rw [HE.out.1,HE.out.2]
     go_wp2_with (first | (go_at_call 150;(with_reducible refine (HED.out y _).mono ?_);rintro e w2 ⟨rfl,hb2⟩;have HB2:=zh hb2;clear hb2) | (go_at_call 151;(with_reducible refine (HAD.out _ _ (HB.out.2.1.next hk HB2.out)).mono ?_);rintro e w3 ⟨rfl,r3,hk3,h3⟩) | fail)
     go_end0
     exact ⟨rfl,r3,(HB.out.2.2.1.trans (Kl.below HB2.out)).trans hk3,h3⟩
   · show Calls _ _ _ w (Lows K unitT r w (s.add (edgeE f n 1)))
     have HAD:=zh (fun r w (h:La K w s r)=>lay_edge K hk s r f n 1 w h ⟨by have:=HF.out;omega,by have:=HF.out;omega⟩)
     go_enter Tryz.func154,Tryz.ntmps154
     go_upto_region 1 with fail
     rw [HE.out.1,HE.out.2]
     go_wp2_with (first | (go_at_call 150;(with_reducible refine (HED.out n _).mono ?_);rintro e w2 ⟨rfl,hb2⟩;have HB2:=zh hb2;clear hb2) | (go_at_call 151;(with_reducible refine (HAD.out _ _ (HB.out.2.1.next hk HB2.out)).mono ?_);rintro e w3 ⟨rfl,r3,hk3,h3⟩) | fail)
     go_end0
     exact ⟨rfl,r3,(HB.out.2.2.1.trans (Kl.below HB2.out)).trans hk3,h3⟩
   · show Calls _ _ _ w (Lows K unitT r w (cmpE K.E op xs f y n s))
     have HC:=zh (HCMP.out (HLN.out.1 rfl) ⟨by have:=HF.out;omega,by have:=HF.out;omega⟩ (by have:=HF.out;omega))
     clear HCMP
     go_enter Tryz.func154,Tryz.ntmps154
     go_upto_region 1 with fail
     rw [HE.out.1,HE.out.2]
     go_wp2_with (first | (go_at_call 184;(with_reducible refine HC.out.mono ?_);rintro e w3 ⟨rfl,r3,hk3,h3⟩) | fail)
     go_end0
     exact ⟨rfl,r3,HB.out.2.2.1.trans hk3,h3⟩
   · have i0:0<cs.length:=by have:=HLN.out.2.1 rfl;omega
     show Calls _ _ _ w (Lows K unitT r w (cnR (cdL K.E cs) 0 f n y s))
     obtain ⟨b0,o0,rfl,hrw⟩:=HROW.out.resolve_left (by omega)
     obtain ⟨fk,fn,fa2,fl2,fc2,fa,fl,fc,hnd,k0,k1,k2,k3⟩:=ccitem_at hrw HB.out.2.2.2.1 0 i0
     simp only [Nat.zero_mul,Nat.add_zero] at k0 k1 k2 k3
     have HC:=zh (HCH.out.1 0 i0 _ f n y s r W1 hnd HB.out.2.2.2.1 HB.out.2.1 ⟨by have:=HF.out;have:=HCH.out.2.1 0 i0;omega,by have:=HF.out;have:=HCH.out.2.1 0 i0;omega⟩ (by have:=HF.out;have:=HCH.out.2.1 0 i0;omega))
     rw [HCH.out.2.2 0 i0]
     have hlb:(0:Int)<cs.length:=by omega
     clear hnd hrw
     go_enter Tryz.func154,Tryz.ntmps154
     go_upto_region 1 with fail
     rw [HE.out.1,HE.out.2]
     go_wp2_with (first | (go_at_call 154;(with_reducible refine HC.out.mono ?_);rintro e w3 ⟨rfl,r3,hk3,h3⟩) | fail)
     go_end0
     exact ⟨rfl,r3,HB.out.2.2.1.trans hk3,h3⟩
   · have i1:1<cs.length:=by have:=HLN.out.2.2 (by omega);omega
     have i0:0<cs.length:=by omega
     show Calls _ _ _ w (Lows K unitT r w (cnR (cdL K.E cs) 1 s.pts y n (cnR (cdL K.E cs) 0 f s.pts n s.fresh)))
     obtain ⟨b0,o0,rfl,hrw⟩:=HROW.out.resolve_left (by omega)
     have HFR:=zh (fresh_any K hk s r W1 HB.out.2.1 ⟨by have:=HF.out;omega,by have:=HF.out;omega⟩)
     rw [HCH.out.2.2 0 i0,HCH.out.2.2 1 i1]
     have e0:=HCH.out.2.1 0 i0
     have e1:=HCH.out.2.1 1 i1
     have hg:=cdN_gr K.E cs[0] f s.pts n s.fresh
     have hf1:Few s.fresh (4 * szN cs[0]):=⟨by have:=HF.out;show s.pts+1+_≤_;omega,by have:=HF.out;show s.eds.length+_≤_;omega⟩
     have hf2:Few (cdN K.E cs[0] f s.pts n s.fresh) (4 * szN cs[1]):=⟨by have:=HF.out;have:=hg.p1;have e:s.fresh.pts=s.pts+1:=rfl;rw [e] at this;omega,by have:=HF.out;have:=hg.e1;have e:s.fresh.eds=s.eds:=rfl;rw [e] at this;omega⟩
     have hd0:szN cs[0]≤1099511627776:=by have:=HF.out;omega
     have hd1:szN cs[1]≤1099511627776:=by have:=HF.out;omega
     have HX:=zh (za hrw (za hf1 (za hf2 (za hd0 hd1))))
     have hlb:(1:Int)<cs.length:=by omega
     have hlb0:(0:Int)<cs.length:=by omega
     clear hrw e0 e1 hg hf1 hf2 hd0 hd1
     go_enter Tryz.func154,Tryz.ntmps154
     go_upto_region 1 with fail
     rw [HE.out.1,HE.out.2]
     go_upto_region 12 with (first | (go_at_call 37;(with_reducible refine HFR.out.mono ?_);rintro e w3 ⟨rfl,r3,hk3,h3⟩;have H3:=zh (za hk3 h3);clear hk3 h3 x0) | fail)
     have hkr3:=HB.out.2.2.1.trans H3.out.1
     have hold3:=HB.out.2.2.2.2.2.trans ((hkr3.old hk HB.out.2.2.2.2.1).mono hH)
     have x3:=(HB.out.1.kr hk H3.out.1).blk.cell
     obtain ⟨fk,fn,fa2,fl2,fc2,fa,fl,fc,hnd,k0,k1,k2,k3⟩:=ccitem_at HX.out.1 hold3 0 i0
     simp only [Nat.zero_mul,Nat.add_zero] at k0 k1 k2 k3
     have HC:=zh (HCH.out.1 0 i0 _ f s.pts n s.fresh r3 w3 hnd hold3 H3.out.2 HX.out.2.1 HX.out.2.2.2.1)
     have HKR:=zh (za hkr3 (HB.out.1.kr hk H3.out.1))
     clear hkr3 hold3 hnd
     go_upto_region 13 with (first | (go_at_call 154;(with_reducible refine HC.out.mono ?_);rintro e w4 ⟨rfl,r4,hk4,h4⟩;have H4:=zh (za hk4 h4);clear hk4 h4 x3 k0 k1 k2 k3) | fail)
     have hkr4:=HKR.out.1.trans H4.out.1
     have hold4:=HB.out.2.2.2.2.2.trans ((hkr4.old hk HB.out.2.2.2.2.1).mono hH)
     have x4:=(HKR.out.2.kr hk H4.out.1).blk.cell
     obtain ⟨gk,gn,ga2,gl2,gc2,ga,gl,gc,hnd,k0,k1,k2,k3⟩:=ccitem_at HX.out.1 hold4 1 i1
     simp only [Nat.one_mul] at k0 k1 k2 k3
     have HC2:=zh (HCH.out.1 1 i1 _ s.pts y n _ r4 w4 hnd hold4 H4.out.2 HX.out.2.2.1 HX.out.2.2.2.2)
     have HKR4:=zh hkr4
     clear hkr4 hold4 hnd HC
     go_wp2_with (first | (go_at_call 154;(with_reducible refine HC2.out.mono ?_);rintro e w5 ⟨rfl,r5,hk5,h5⟩) | fail)
     go_end0
     exact ⟨rfl,r5,HKR4.out.trans hk5,h5⟩
   · have i1:1<cs.length:=by have:=HLN.out.2.2 (by omega);omega
     have i0:0<cs.length:=by omega
     show Calls _ _ _ w (Lows K unitT r w (cnR (cdL K.E cs) 1 s.pts y n (cnR (cdL K.E cs) 0 f y s.pts s.fresh)))
     obtain ⟨b0,o0,rfl,hrw⟩:=HROW.out.resolve_left (by omega)
     have HFR:=zh (fresh_any K hk s r W1 HB.out.2.1 ⟨by have:=HF.out;omega,by have:=HF.out;omega⟩)
     rw [HCH.out.2.2 0 i0,HCH.out.2.2 1 i1]
     have e0:=HCH.out.2.1 0 i0
     have e1:=HCH.out.2.1 1 i1
     have hg:=cdN_gr K.E cs[0] f y s.pts s.fresh
     have hf1:Few s.fresh (4 * szN cs[0]):=⟨by have:=HF.out;show s.pts+1+_≤_;omega,by have:=HF.out;show s.eds.length+_≤_;omega⟩
     have hf2:Few (cdN K.E cs[0] f y s.pts s.fresh) (4 * szN cs[1]):=⟨by have:=HF.out;have:=hg.p1;have e:s.fresh.pts=s.pts+1:=rfl;rw [e] at this;omega,by have:=HF.out;have:=hg.e1;have e:s.fresh.eds=s.eds:=rfl;rw [e] at this;omega⟩
     have hd0:szN cs[0]≤1099511627776:=by have:=HF.out;omega
     have hd1:szN cs[1]≤1099511627776:=by have:=HF.out;omega
     have HX:=zh (za hrw (za hf1 (za hf2 (za hd0 hd1))))
     have hlb:(1:Int)<cs.length:=by omega
     have hlb0:(0:Int)<cs.length:=by omega
     clear hrw e0 e1 hg hf1 hf2 hd0 hd1
     go_enter Tryz.func154,Tryz.ntmps154
     go_upto_region 1 with fail
     rw [HE.out.1,HE.out.2]
     go_upto_region 16 with (first | (go_at_call 37;(with_reducible refine HFR.out.mono ?_);rintro e w3 ⟨rfl,r3,hk3,h3⟩;have H3:=zh (za hk3 h3);clear hk3 h3 x0) | fail)
     have hkr3:=HB.out.2.2.1.trans H3.out.1
     have hold3:=HB.out.2.2.2.2.2.trans ((hkr3.old hk HB.out.2.2.2.2.1).mono hH)
     have x3:=(HB.out.1.kr hk H3.out.1).blk.cell
     obtain ⟨fk,fn,fa2,fl2,fc2,fa,fl,fc,hnd,k0,k1,k2,k3⟩:=ccitem_at HX.out.1 hold3 0 i0
     simp only [Nat.zero_mul,Nat.add_zero] at k0 k1 k2 k3
     have HC:=zh (HCH.out.1 0 i0 _ f y s.pts s.fresh r3 w3 hnd hold3 H3.out.2 HX.out.2.1 HX.out.2.2.2.1)
     have HKR:=zh (za hkr3 (HB.out.1.kr hk H3.out.1))
     clear hkr3 hold3 hnd
     go_upto_region 17 with (first | (go_at_call 154;(with_reducible refine HC.out.mono ?_);rintro e w4 ⟨rfl,r4,hk4,h4⟩;have H4:=zh (za hk4 h4);clear hk4 h4 x3 k0 k1 k2 k3) | fail)
     have hkr4:=HKR.out.1.trans H4.out.1
     have hold4:=HB.out.2.2.2.2.2.trans ((hkr4.old hk HB.out.2.2.2.2.1).mono hH)
     have x4:=(HKR.out.2.kr hk H4.out.1).blk.cell
     obtain ⟨gk,gn,ga2,gl2,gc2,ga,gl,gc,hnd,k0,k1,k2,k3⟩:=ccitem_at HX.out.1 hold4 1 i1
     simp only [Nat.one_mul] at k0 k1 k2 k3
     have HC2:=zh (HCH.out.1 1 i1 _ s.pts y n _ r4 w4 hnd hold4 H4.out.2 HX.out.2.2.1 HX.out.2.2.2.2)
     have HKR4:=zh hkr4
     clear hkr4 hold4 hnd HC
     go_wp2_with (first | (go_at_call 154;(with_reducible refine HC2.out.mono ?_);rintro e w5 ⟨rfl,r5,hk5,h5⟩) | fail)
     go_end0
     exact ⟨rfl,r5,HKR4.out.trans hk5,h5⟩
def StC (K:Le) (w0:World) (F:Nat) (x:Nd):Prop:=∀ (us:List Value) (f t:Int) (s:Lw) (r:Option Nat) (w:World),NdIn w0 x us→Below w0.heap.size w0 w→La K w s r→Few s (8 * szN x - 1)→szN x≤1099511627776 →
 Calls Tryz.prog F #[.pointer (some ⟨K.M,0,none⟩),.agg us.toArray,.int .i64 f,.int .i64 t] w (Lows K unitT r w (lwN K.E x f t s))
theorem assign_any (K:Le) (hk:K.ok) (w0:World) (hH:w0.heap.size≤K.H0) (htab:TabK w0) (x:Nd) (hty:x.ty=.S) (hk1:kindN x=1) (hok:fmN x):StC K w0 106 x:=by
 intro us f t s r w hin hw h hf hd
 obtain ⟨ty,k,n,nm,xs,cs,ts,es⟩:=x
 simp only [Nd.ty] at hty
 subst hty
 have hkk:k=1:=hk1
 subst hkk
 have hsz:szN (.mk .S 1 n nm xs cs ts es)=1+(szL xs+(szL cs+(szL ts+szL es))):=by rw [szN]
 unfold fmN at hok
 obtain ⟨⟨-,-,hx1,-⟩,hfx,-⟩:=hok
 have hlen:=hx1 rfl
 unfold NdIn at hin
 obtain ⟨hz,-,-,hnm,vx,vc,vt,ve,rfl,hxs,hcs,hts,hes⟩:=hin
 obtain ⟨ax,cx,rfl,-,-,hrow⟩:=hxs
 obtain ⟨ac,cc,rfl,-⟩:=hcs
 obtain ⟨aT,cT,rfl,-⟩:=hts
 obtain ⟨aE,cE,rfl,-⟩:=hes
 obtain ⟨b0,o0,rfl,hrw⟩:=hrow.resolve_left (by omega)
 have i0:0<xs.length:=by omega
 change Calls _ _ #[_,.agg #[.int .i64 1,.string nm,.slice (some ⟨b0,o0,none⟩) xs.length cx,.slice ac cs.length cc,.slice aT ts.length cT,.slice aE es.length cE],_,_] w _
 have hx0:xs.getD 0 noNd=xs[0]:=by rw [List.getD_eq_getElem?_getD,List.getElem?_eq_getElem i0];rfl
 rw [lwN]
 show Calls _ _ _ w (Lows K unitT r w (asgP K.E nm (xs.getD 0 noNd) f t s))
 rw [hx0]
 have hX0:=Tl.new h #[.int .i64 1,.string nm,.slice (some ⟨b0,o0,none⟩) xs.length cx,.slice ac cs.length cc,.slice aT ts.length cT,.slice aE es.length cE] 57
 have h1:=h.alloc hk (.cells #[.int .i64 1,.string nm,.slice (some ⟨b0,o0,none⟩) xs.length cx,.slice ac cs.length cc,.slice aT ts.length cT,.slice aE es.length cE] 57)
 have hkr:Kl K r r w (w.alloc (.cells #[.int .i64 1,.string nm,.slice (some ⟨b0,o0,none⟩) xs.length cx,.slice ac cs.length cc,.slice aT ts.length cT,.slice aE es.length cE] 57)):=(Kl.refl K r w).alloc _
 obtain ⟨W1,hW1⟩:∃ W1,w.alloc (.cells #[.int .i64 1,.string nm,.slice (some ⟨b0,o0,none⟩) xs.length cx,.slice ac cs.length cc,.slice aT ts.length cT,.slice aE es.length cE] 57)=W1:=⟨_,rfl⟩
 rw [hW1] at hX0 h1 hkr
 obtain ⟨X,hX⟩:∃ X,w.heap.size=X:=⟨_,rfl⟩
 rw [hX] at hX0
 have hold1:Below w0.heap.size w0 W1:=hw.trans ((hkr.old hk h).mono hH)
 have hle:szN xs[0]≤szL xs:=by
  match xs,i0 with
  | x :: r,_=>simp only [szL,List.getElem_cons_zero];omega
 obtain ⟨fk,fn,fs,fa,fl,fc,hnd,k0,k1,k2,k3⟩:=eitem_at hrw hold1 0 i0
 simp only [Nat.zero_mul,Nat.add_zero] at k0 k1 k2 k3
 obtain ⟨hty0,hok0⟩:=fmL_at hfx 0 i0
 have HPL:=zh (fun w (hb:Below w0.heap.size w0 w) r (h:La K w s r)=>plain_any K hk w0 xs[0] _ hty0 hok0 hnd s r w hb h)
 have HIN:=zh (fun (dst:Int) w (hb:Below w0.heap.size w0 w) r (h:La K w s r) (hsim:simN K.E (xs[0]'i0)=none)=>into_any K hk w0 hH htab xs[0] hty0 hok0 _ dst f t 0 s r w hnd hsim hb h ⟨by have:=hf.p;have:=args_sz xs[0];omega,by have:=hf.e;have:=args_sz xs[0];omega⟩ (by omega) (by omega))
 have HF1:=zh (show Few s 1 from ⟨by have:=hf.p;omega,by have:=hf.e;omega⟩)
 obtain ⟨ve,hm,he⟩:=h1
 obtain ⟨ve',hm',he'⟩:=(show La K W1 s r from ⟨ve,hm,he⟩).drew hk
 have hl1:=hm.look hk nm hnm
 have hl2:=hm'.look hk nm hnm
 have c0:W1.cell? ⟨K.M,0,none⟩=some (.map (some K.G)):=hm.mach.cell 0
 obtain ⟨PL,hPL⟩:∃ z:Nat,K.E.pl nm=z:=⟨_,rfl⟩
 rw [hPL] at hl1 hl2
 have x1:W1.cell? ⟨X,1,none⟩=some (.string nm):=hX0.blk.cell 1
 have x2:W1.cell? ⟨X,2,none⟩=some (.slice (some ⟨b0,o0,none⟩) xs.length cx):=hX0.blk.cell 2
 have hla1:La K W1 s r:=⟨ve,hm,he⟩
 have hbz:Below W1.heap.size W1 (W1.alloc (.cells #[.int .i64 0,.int .i64 0,.string ⟨#[]⟩,.slice none 0 0] 142)):=(Below.refl _ W1).alloc (Nat.le_refl _) _
 obtain ⟨vz,hmz,hez⟩:=hla1.next hk hbz
 obtain ⟨vz',hmz',hez'⟩:=(hla1.next hk hbz).drew hk
 have hl3:=hmz.look hk nm hnm
 have hl4:=hmz'.look hk nm hnm
 rw [hPL] at hl3 hl4
 have c0z:(W1.alloc (.cells #[.int .i64 0,.int .i64 0,.string ⟨#[]⟩,.slice none 0 0] 142)).cell? ⟨K.M,0,none⟩=some (.map (some K.G)):=hmz.mach.cell 0
 have x1z:(W1.alloc (.cells #[.int .i64 0,.int .i64 0,.string ⟨#[]⟩,.slice none 0 0] 142)).cell? ⟨X,1,none⟩=some (.string nm):=(hX0.blk.alloc _).cell 1
 have x2z:(W1.alloc (.cells #[.int .i64 0,.int .i64 0,.string ⟨#[]⟩,.slice none 0 0] 142)).cell? ⟨X,2,none⟩=some (.slice (some ⟨b0,o0,none⟩) xs.length cx):=(hX0.blk.alloc _).cell 2
 have kz:=keeps_below hbz
 have k0z:=kz _ _ _ k0
 have k1z:=kz _ _ _ k1
 have k2z:=kz _ _ _ k2
 have k3z:=kz _ _ _ k3
 have HB:=zh (za hX0 (za (show La K W1 s r from ⟨ve,hm,he⟩) (za hkr (za hold1 (za h (za hw hPL))))))
 have HE:=zh (za hW1 hX)
 have hlb:(0:Int)<xs.length:=by omega
 clear hX0 hkr hW1 hX hold1 h hw hf hd hfx hsz hx1 hlen hm he hm' he' hPL htab hle hx0 hrow hrw hnd hty0 hok0 hk1 hla1 hbz hmz hez hmz' hez' kz
 go_enter Tryz.func106,Tryz.ntmps106
 go_upto_region 1 with fail
 rw [HE.out.1,HE.out.2]
 obtain ⟨V,hV⟩:∃ V,W1.heap.size=V:=⟨_,rfl⟩
 have HV:=zh hV
 go_cut [8,9] (fun a b wx=>a=.int .i64 (PL:Int)∧b=.pointer (some ⟨V,0,none⟩)∧wx=(W1.alloc (.cells #[.int .i64 fk,.int .i64 fn,.string fs,.slice fa fl fc] 142)).drew)
 case first =>
  go_region
  all_goals
   go_wp2_with fail
   go_meet
   exact ⟨rfl,rfl,rfl⟩
 case rest =>
  obtain ⟨rfl,rfl,rfl⟩:=hcut
  have hb2:Below W1.heap.size W1 (W1.alloc (.cells #[.int .i64 fk,.int .i64 fn,.string fs,.slice fa fl fc] 142)).drew:=((Below.refl _ W1).alloc (Nat.le_refl _) _).drew
  have hV2:Blk (W1.alloc (.cells #[.int .i64 fk,.int .i64 fn,.string fs,.slice fa fl fc] 142)).drew V #[.int .i64 fk,.int .i64 fn,.string fs,.slice fa fl fc] 142:=by rw [← hV];exact Blk.new W1 _ _
  have h2:=HB.out.2.1.next hk hb2
  have hkr2:=HB.out.2.2.1.trans (Kl.below (r:=r) hb2)
  have hold2:=HB.out.2.2.2.1.trans (hb2.mono HB.out.2.2.2.1.size)
  have hVl:K.B1≤V∧r≠some V:=⟨by rw [← hV];exact HB.out.2.1.size,fun e=>by have:=(HB.out.2.1.row _ e).2;omega⟩
  obtain ⟨W2,hW2⟩:∃ W,(W1.alloc (.cells #[.int .i64 fk,.int .i64 fn,.string fs,.slice fa fl fc] 142)).drew=W:=⟨_,rfl⟩
  rw [hW2] at hb2 hV2 h2 hkr2 hold2
  rw [hW2]
  have hPL2:=HPL.out W2 hold2 r h2
  have v2:=hV2.cell
  have H2:=zh (za (show Tl K W2 r V _ _ from ⟨hV2,hVl.1,hVl.2⟩) (za h2 (za hkr2 hold2)))
  have HPL2:=zh hPL2
  obtain ⟨so,hso⟩:∃ o,simN K.E (xs[0]'i0)=o:=⟨_,rfl⟩
  rw [hso] at HPL2
  clear hb2 hV2 h2 hkr2 hold2 hVl hW2 hPL2 hV k0z k1z k2z k3z k0 k1 k2 k3 x1z x2z c0z hl1 hl2 hl3 hl4 c0 x1 x2
  cases so with
  | some o =>
    obtain ⟨oa,ob⟩:=o
    unfold plainV at HPL2
    have hE:asgP K.E nm (xs[0]'i0) f t s=s.add ⟨f,t,2,(PL:Int),-1,0,oa,ob,-1,0⟩:=by unfold asgP;rw [hso,HB.out.2.2.2.2.2.2]
    have HE2:=zh hE
    clear hE hso
    have HED:=zh (fun w=>show Calls Tryz.prog 150 #[.int .i64 f,.int .i64 t,.int .i64 2] w (fun e w'=>e=.returned (.agg #[.int .i64 f,.int .i64 t,.int .i64 2,.int .i64 (-1),.int .i64 (-1),.int .i64 0,.int .i64 (-1),.int .i64 0,.int .i64 (-1),.int .i64 0])∧Below w.heap.size w w') from cedge_any f t 2 w)
    go_upto_region 4 with (first | (go_at_call 149;(with_reducible refine HPL2.out.mono ?_);rintro e w3 ⟨rfl,hb3⟩;have HB3:=zh hb3;clear hb3 v2) | fail)
    obtain ⟨Q,hQ⟩:∃ Q,w3.heap.size=Q:=⟨_,rfl⟩
    have hb4:Below W2.heap.size W2 (w3.alloc (.cells #[.int .i64 oa,.int .i64 ob] 38)):=HB3.out.alloc HB3.out.size _
    have hQ4:Blk (w3.alloc (.cells #[.int .i64 oa,.int .i64 ob] 38)) Q #[.int .i64 oa,.int .i64 ob] 38:=by rw [← hQ];exact Blk.new w3 _ _
    obtain ⟨W4,hW4⟩:∃ W,w3.alloc (.cells #[.int .i64 oa,.int .i64 ob] 38)=W:=⟨_,rfl⟩
    rw [hW4] at hb4 hQ4
    rw [hW4,hQ]
    have H4:=zh (za hb4 hQ4)
    clear hb4 hQ4 hW4 hQ
    go_upto_region 5 with (first | (go_at_call 150;(with_reducible refine (HED.out _).mono ?_);rintro e w5 ⟨rfl,hb5⟩;have HB5:=zh hb5;clear hb5) | fail)
    have h4:=H2.out.2.1.next hk H4.out.1
    have h5:=h4.next hk HB5.out
    have hL6:=Tl.new h5 #[.int .i64 f,.int .i64 t,.int .i64 2,.int .i64 (-1),.int .i64 (-1),.int .i64 0,.int .i64 (-1),.int .i64 0,.int .i64 (-1),.int .i64 0] 40
    have hb6:Below W4.heap.size W4 (w5.alloc (.cells #[.int .i64 f,.int .i64 t,.int .i64 2,.int .i64 (-1),.int .i64 (-1),.int .i64 0,.int .i64 (-1),.int .i64 0,.int .i64 (-1),.int .i64 0] 40)):=HB5.out.alloc HB5.out.size _
    have h6:=h4.next hk hb6
    have hQ6:=H4.out.2.next hb6
    have hkr6:=(H2.out.2.2.1.trans (Kl.below H4.out.1)).trans (Kl.below hb6)
    have hQL:Q≠w5.heap.size:=by have:=H4.out.2.lt;have:=HB5.out.size;omega
    obtain ⟨W6,hW6⟩:∃ W,w5.alloc (.cells #[.int .i64 f,.int .i64 t,.int .i64 2,.int .i64 (-1),.int .i64 (-1),.int .i64 0,.int .i64 (-1),.int .i64 0,.int .i64 (-1),.int .i64 0] 40)=W:=⟨_,rfl⟩
    obtain ⟨L,hL⟩:∃ L,w5.heap.size=L:=⟨_,rfl⟩
    rw [hW6] at hL6 h6 hQ6 hkr6
    rw [hL] at hL6 hQL
    rw [hW6,hL]
    have HGL:=zh (show w.heap.size≤L by have:=H2.out.2.2.1.size;have:=H4.out.1.size;have:=HB5.out.size;omega)
    have q0:=hQ6.cell
    have l0:=hL6.blk.cell
    have l1:=hL6.blk.free
    have H6:=zh (za hL6 (za h6 hkr6))
    clear h4 h5 hL6 hb6 h6 hQ6 hkr6 hW6 hL
    go_cut [31] (fun _ wx=>Blk wx L #[.int .i64 f,.int .i64 t,.int .i64 2,.int .i64 (PL:Int),.int .i64 (-1),.int .i64 0,.int .i64 oa,.int .i64 ob,.int .i64 (-1),.int .i64 0] 40∧Only L W6 wx)
    case first =>
     go_region
     all_goals
      go_wp2_with fail
      go_meet
      have d0:Blk (W6.setCell ⟨L,3,none⟩ (.int .i64 (PL:Int))) L #[.int .i64 f,.int .i64 t,.int .i64 2,.int .i64 (PL:Int),.int .i64 (-1),.int .i64 0,.int .i64 (-1),.int .i64 0,.int .i64 (-1),.int .i64 0] 40:=H6.out.1.blk.set 3 (.int .i64 (PL:Int))
      have d1:Blk ((W6.setCell ⟨L,3,none⟩ (.int .i64 (PL:Int))).setCell ⟨L,6,none⟩ (.int .i64 oa)) L #[.int .i64 f,.int .i64 t,.int .i64 2,.int .i64 (PL:Int),.int .i64 (-1),.int .i64 0,.int .i64 oa,.int .i64 0,.int .i64 (-1),.int .i64 0] 40:=d0.set 6 (.int .i64 oa)
      have d2:Blk (((W6.setCell ⟨L,3,none⟩ (.int .i64 (PL:Int))).setCell ⟨L,6,none⟩ (.int .i64 oa)).setCell ⟨L,7,none⟩ (.int .i64 ob)) L #[.int .i64 f,.int .i64 t,.int .i64 2,.int .i64 (PL:Int),.int .i64 (-1),.int .i64 0,.int .i64 oa,.int .i64 ob,.int .i64 (-1),.int .i64 0] 40:=d1.set 7 (.int .i64 ob)
      exact ⟨d2,((((Only.refl L W6).setCell (p:=⟨L,3,none⟩) rfl (.int .i64 (PL:Int))).setCell (p:=⟨L,6,none⟩) rfl (.int .i64 oa)).setCell (p:=⟨L,7,none⟩) rfl (.int .i64 ob)).trans (Only.below (B:=L) (Below.refl _ _).drew)⟩
    case rest =>
     obtain ⟨hbc,hoc⟩:=hcut
     have hlc:=H6.out.2.1.tmp hk H6.out.1.base H6.out.1.row hoc
     have hkc:=H6.out.2.2.one hoc HGL.out
     have l2:=hbc.cell
     have HA:=zh (show Calls Tryz.prog 151 #[.pointer (some ⟨K.M,0,none⟩),.agg #[.int .i64 f,.int .i64 t,.int .i64 2,.int .i64 (PL:Int),.int .i64 (-1),.int .i64 0,.int .i64 oa,.int .i64 ob,.int .i64 (-1),.int .i64 0]] wc (Lows K unitT r wc (s.add ⟨f,t,2,(PL:Int),-1,0,oa,ob,-1,0⟩)) from cadd_any K hk s r ⟨f,t,2,(PL:Int),-1,0,oa,ob,-1,0⟩ wc hlc HF1.out)
     have HC:=zh hkc
     clear hbc hoc hlc hkc q0 l0 l1 hQL
     go_wp2_with (first | (go_at_call 151;(with_reducible refine HA.out.mono ?_);rintro e w9 ⟨rfl,r9,hk9,h9⟩) | fail)
     refine bodyPost_ret (results_none rfl _ _ _) rfl ?_
     rw [HE2.out]
     exact ⟨rfl,r9,HC.out.trans hk9,h9⟩
  | none =>
    unfold plainV at HPL2
    have hE:asgP K.E nm (xs[0]'i0) f t s=intoN K.E (xs[0]'i0) (PL:Int) f t 0 s:=by unfold asgP;rw [hso,HB.out.2.2.2.2.2.2]
    have HE2:=zh hE
    have HIN2:=zh (fun w (hb:Below w0.heap.size w0 w) (h:La K w s r)=>HIN.out (PL:Int) w hb r h hso)
    clear hE hso
    go_upto_region 7 with (first | (go_at_call 149;(with_reducible refine HPL2.out.mono ?_);rintro e w3 ⟨rfl,hb3⟩;have HB3:=zh hb3;clear hb3 v2) | fail)
    have hb4:Below W2.heap.size W2 (w3.alloc (.cells #[.int .i64 0,.int .i64 0] 38)):=HB3.out.alloc HB3.out.size _
    have v4:=(H2.out.1.next hb4).blk.cell
    have h4:=H2.out.2.1.next hk hb4
    have hkr4:=H2.out.2.2.1.trans (Kl.below (r:=r) hb4)
    have HI:=zh (HIN2.out _ (H2.out.2.2.2.trans (hb4.mono H2.out.2.2.2.size)) h4)
    have HK4:=zh hkr4
    clear hb4 h4 hkr4
    go_wp2_with (first | (go_at_call 152;(with_reducible refine HI.out.mono ?_);rintro e w8 ⟨rfl,r8,hk8,h8⟩) | fail)
    go_end0
    rw [HE2.out]
    exact ⟨rfl,r8,HK4.out.trans hk8,h8⟩
def thenN:Nd→List Nd | .mk _ _ _ _ _ _ ts _=>ts
def elseN:Nd→List Nd | .mk _ _ _ _ _ _ _ es=>es
def BlkC (K:Le) (w0:World) (l:List Nd):Prop:=∀ (v:Value) (f t:Int) (s:Lw) (r:Option Nat) (w:World),SlIn w0 .S l v→Below w0.heap.size w0 w→La K w s r→Few s (8 * szL l)→szL l≤1099511627776 →
 Calls Tryz.prog 39 #[.pointer (some ⟨K.M,0,none⟩),v,.int .i64 f,.int .i64 t] w (Lows K unitT r w (lwB K.E l f t s))
theorem lwB_gr (E:Lv) (l:List Nd) (f t:Int) (s:Lw):Gw (8 * szL l) (8 * szL l) s (lwB E l f t s):=by
 have:=len_sz l
 unfold lwB
 exact (blk_gr (fun f p t s=>lwL_gr E l f p t s) f t s).mono (by omega) (by omega)
theorem skip_any (K:Le) (hk:K.ok) (w0:World) (hH:w0.heap.size≤K.H0) (_htab:TabK w0) (x:Nd) (hty:x.ty=.S) (hk1:kindN x=7) (hok:fmN x):StC K w0 112 x:=by
 intro us f t s r w hin hw h hf hd
 obtain ⟨ty,k,n,nm,xs,cs,ts,es⟩:=x
 simp only [Nd.ty] at hty
 subst hty
 have hkk:k=7:=hk1
 subst hkk
 have hsz:szN (.mk .S 7 n nm xs cs ts es)=1+(szL xs+(szL cs+(szL ts+szL es))):=by rw [szN]
 unfold fmN at hok
 obtain ⟨⟨-,-,-,-,hc1⟩,-,hfc,-⟩:=hok
 unfold NdIn at hin
 obtain ⟨hz,-,-,hnm,vx,vc,vt,ve,rfl,hxs,hcs,hts,hes⟩:=hin
 have hsx:∃ a c,vx=.slice a xs.length c:=by obtain ⟨a,c,h,-⟩:=hxs;exact ⟨a,c,h⟩
 have hst:∃ a c,vt=.slice a ts.length c:=by obtain ⟨a,c,h,-⟩:=hts;exact ⟨a,c,h⟩
 have hse:∃ a c,ve=.slice a es.length c:=by obtain ⟨a,c,h,-⟩:=hes;exact ⟨a,c,h⟩
 obtain ⟨ax,cx,rfl⟩:=hsx
 obtain ⟨aT,cT,rfl⟩:=hst
 obtain ⟨aE,cE,rfl⟩:=hse
 obtain ⟨ac,cc,rfl,-,-,hrow⟩:=hcs
 change Calls _ _ #[_,.agg #[.int .i64 7,.string nm,.slice ax xs.length cx,.slice ac cs.length cc,.slice aT ts.length cT,.slice aE es.length cE],_,_] w _
 rw [lwN]
 show Calls _ _ _ w (Lows K unitT r w (s.add (edgeE f t 1)))
 have hX0:=Tl.new h #[.int .i64 7,.string nm,.slice ax xs.length cx,.slice ac cs.length cc,.slice aT ts.length cT,.slice aE es.length cE] 57
 have h1:=h.alloc hk (.cells #[.int .i64 7,.string nm,.slice ax xs.length cx,.slice ac cs.length cc,.slice aT ts.length cT,.slice aE es.length cE] 57)
 have hkr:Kl K r r w (w.alloc (.cells #[.int .i64 7,.string nm,.slice ax xs.length cx,.slice ac cs.length cc,.slice aT ts.length cT,.slice aE es.length cE] 57)):=(Kl.refl K r w).alloc _
 obtain ⟨W1,hW1⟩:∃ W1,w.alloc (.cells #[.int .i64 7,.string nm,.slice ax xs.length cx,.slice ac cs.length cc,.slice aT ts.length cT,.slice aE es.length cE] 57)=W1:=⟨_,rfl⟩
 rw [hW1] at hX0 h1 hkr
 obtain ⟨X,hX⟩:∃ X,w.heap.size=X:=⟨_,rfl⟩
 rw [hX] at hX0
 have hold1:Below w0.heap.size w0 W1:=hw.trans ((hkr.old hk h).mono hH)
 rw [hsz] at hf hd
 have hfp:=hf.p
 have hfe:=hf.e
 have HF:=zh (za hfp (za hfe (za hd True.intro)))
 have HB:=zh (za hX0 (za h1 (za hkr (za hold1 (za h hw)))))
 have HE:=zh (za hW1 hX)
 have x0:=hX0.blk.cell
 have HT:=zh (za hts hes)
 clear hX0 h1 hkr hW1 hX hold1 h hw hf hd hfp hfe hsz hk1 hfc hc1 hxs hts hes hrow _htab hz
 go_enter Tryz.func112,Tryz.ntmps112
 go_upto_region 1 with fail
 rw [HE.out.1,HE.out.2]
 have HED:=zh (fun w=>cedge_any f t 1 w)
 have HAD:=zh (fun r w (h:La K w s r)=>lay_edge K hk s r f t 1 w h ⟨by have:=HF.out;omega,by have:=HF.out;omega⟩)
 go_wp2_with (first | (go_at_call 150;(with_reducible refine (HED.out _).mono ?_);rintro e w2 ⟨rfl,hb2⟩;have HB2:=zh hb2;clear hb2) | (go_at_call 151;(with_reducible refine (HAD.out _ _ (HB.out.2.1.next hk HB2.out)).mono ?_);rintro e w3 ⟨rfl,r3,hk3,h3⟩) | fail)
 go_end0
 exact ⟨rfl,r3,(HB.out.2.2.1.trans (Kl.below HB2.out)).trans hk3,h3⟩
end Go.Proofs.YtmohmggnjldddaaGreatDoor
