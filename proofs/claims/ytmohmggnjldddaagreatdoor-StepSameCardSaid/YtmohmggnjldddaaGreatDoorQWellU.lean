/-
  The project's names of one statement (well's uses): proved is that they stand in a list of its own.
-/
import Derived.Test.YtmohmggnjldddaaGreatDoorQUsesC
import Derived.Deep.RegionWith
namespace Go.Proofs.YtmohmggnjldddaaGreatDoor
open Go Go.RowKit
def kindB (b:Bool):Int:=if b then 2 else 1
def cellsK (l:List Us):List Value:=l.flatMap fun u=>[.string u.1,.int .i64 (kindB u.2)]
theorem info_wuse:(Tryz.prog.info? 178).map (fun i=>(i.zero,i.size,i.bytes))=some (some (.agg #[.string ⟨#[]⟩,.int .i64 0]),2,24):=by kernel_rfl
theorem kuse_one (nm:ByteArray) (k:Int):∀ u ∈ ([.string nm,.int .i64 k]:List Value),u.oneCell'=true:=by
 intro u hu
 simp at hu
 rcases hu with rfl | rfl <;> rfl
theorem news_kuse (w:World) (nm:ByteArray) (k:Int) (c:Nat) (hc:w.heap.size=c):∀ j u,([.string nm,.int .i64 k]:List Value)[j]?=some u→(w.alloc (.cells #[.string nm,.int .i64 k] 178)).cell? ((⟨c,0,none⟩:Addr).add j)=some u:=by
 rw [← hc]
 exact World.news_of_block (cs:=#[.string nm,.int .i64 k]) (t:=178) (fr:=(0,0)) (heap_alloc_new w _)
def KUsedTo (w:World) (base:Nat) (v:Value) (L:List Us):Ending→World→Prop:=fun e w'=>∃ v',e=.returned v'∧w'.ownsRow base 178 2 v' L.length (cellsK L)∧Gr v.ownBlock v'.ownBlock w w'
set_option maxRecDepth 100000 in
set_option maxHeartbeats 16000000 in
theorem inExprs_any (w0:World) (base:Nat) (hB0:w0.heap.size≤base):∀ (N:Nat) (l:List Nd) (vl:Value) (L:List Us) (v:Value) (w:World),SizeOf.sizeOf l≤N→SlIn w0 .E l vl→Below w0.heap.size w0 w→base≤w.heap.size→w.ownsRow base 178 2 v L.length (cellsK L)→L.length+(usesL l).length≤1099511627776 →
    Calls Tryz.prog 147 #[v,vl] w (KUsedTo w base v (L ++ usesL l)):=by
 intro N
 induction N with
 | zero =>
   intro l vl L v w hN
   cases l <;> simp at hN
 | succ N ih =>
   intro l vl L v w hN hl hw hbw hown hlen
   obtain ⟨A,C,rfl,hlC,hcmC,hROW⟩:=hl
   have HROW:=Lib.hid hROW;clear hROW
   have HIH:=Lib.hid ih;clear ih
   obtain ⟨i0,hi0,hz0,hz1,hz2⟩:=info_parts info_wuse
   have HI0:=Lib.hid hi0;clear hi0
   have HZ0:=Lib.hid hz0;clear hz0
   have HZ1:=Lib.hid hz1;clear hz1
   have HZ2:=Lib.hid hz2;clear hz2
   obtain ⟨POST,hPOST⟩:∃ l',L ++ usesL l=l':=⟨_,rfl⟩
   rw [hPOST]
   have HPOST:=Lib.hid hPOST;clear hPOST
   have HOR0:=Lib.hid (fun g hg=>(hown.lt g hg).1)
   have HO0:=Lib.hid hown;clear hown
   have HHW:=Lib.hid hw;clear hw
   go_enter Tryz.func147,Tryz.ntmps147
   go_wp2_with fail
   go_loopw [0,9] (fun y x wr=>∃ (vo:Value) (ii:Nat),vo=y∧x=.int .i64 ii∧ii≤l.length∧wr.ownsRow base 178 2 vo (L ++ usesL (l.take ii)).length (cellsK (L ++ usesL (l.take ii)))∧Gr v.ownBlock vo.ownBlock w wr) (fun _ x _=>l.length - (intOf x).toNat)
   case atStart=>exact ⟨v,0,rfl,rfl,by omega,by rw [List.take_zero,usesL,List.append_nil];exact HO0.out,Gr.refl _ _⟩
   case round =>
    obtain ⟨vo,ii,rfl,rfl,hii,hOo,hGo⟩:=hrel
    have HOO:=Lib.hid hOo;clear hOo
    have HGO:=Lib.hid hGo;clear hGo
    by_cases hlt:ii < l.length
    · have hbii:(ii:Int)+1≤9223372036854775807:=by unfold maxLen at hcmC;omega
      have hxl0:¬ l.length=0:=by omega
      obtain ⟨b0,o0,rfl,hrow⟩:=HROW.out.resolve_left hxl0
      have hold0:Below w0.heap.size w0 wr:=HHW.out.trans (HGO.out.old HHW.out.size (fun g hg=>Nat.le_trans hB0 (HOR0.out g hg)))
      obtain ⟨hty,u0,u1,u2,u3,m0,m1,m2,m3,hnd⟩:=SlIn.item4 rfl hrow ii hlt
      have hsz0:=List.sizeOf_lt_of_mem (List.getElem_mem hlt)
      have kk:=keeps_below hold0
      have g0:=kk _ _ _ m0
      have g1:=kk _ _ _ m1
      have g2:=kk _ _ _ m2
      have g3:=kk _ _ _ m3
      have hle0:=usesL_at_le hlt
      have htk0:=usesL_take hlt
      clear m0 m1 m2 m3 kk hrow
      obtain ⟨X,hX⟩:∃ X,l[ii]=X:=⟨_,rfl⟩
      rw [hX] at hnd hty htk0 hle0 hsz0
      clear hX
      obtain ⟨ty,k,n,nm,xs,cs,ts,es⟩:=X
      simp only [Nd.ty] at hty
      subst hty
      unfold NdIn at hnd
      obtain ⟨hz,-,-,-,vx,vc,vt,ve,hvs,hxs,hcs,hts,hes⟩:=hnd
      simp only [fits] at hz
      obtain ⟨rfl,rfl,rfl⟩:=hz
      simp only [lay,List.cons.injEq,and_true] at hvs
      obtain ⟨rfl,rfl,rfl,rfl⟩:=hvs
      have hu:usesN (.mk .E k n nm xs [] [] [])=headU nm (k == 2) (k == 4) ++ usesL xs:=by unfold usesN;rfl
      rw [hu] at htk0 hle0
      clear hu
      simp only [Nd.mk.sizeOf_spec] at hsz0
      have HT:=Lib.hid (fun L v w=>HIH.out xs _ L v w (by omega) hxs)
      obtain ⟨a1,c1,rfl,-⟩:=hxs
      obtain ⟨b2,hb2⟩:∃ b,(k == 2)=b:=⟨_,rfl⟩
      obtain ⟨b4,hb4⟩:∃ b,(k == 4)=b:=⟨_,rfl⟩
      rw [hb2,hb4] at htk0 hle0
      have HB2:=Lib.hid hb2;clear hb2
      have HB4:=Lib.hid hb4;clear hb4
      rw [List.length_append] at hle0
      obtain ⟨LB,hLB⟩:∃ x,L ++ usesL (l.take ii)=x:=⟨_,rfl⟩
      have hOo:=HOO.out;clear HOO
      rw [hLB] at hOo
      obtain ⟨FIN,hFN⟩:∃ x,L ++ usesL (l.take (ii+1))=x:=⟨_,rfl⟩
      have hlenLB:=congrArg List.length hLB
      simp only [List.length_append] at hlenLB
      have HFN:=Lib.hid hFN
      have hfin:LB ++ (headU nm b2 b4 ++ usesL xs)=FIN:=by rw [← hLB,← hFN,htk0,List.append_assoc]
      have HFIN:=Lib.hid hfin;clear hfin htk0 hLB hsz0 hFN
      have hor:∀ g,vo.ownBlock=some g→base≤g∧g < wr.heap.size:=hOo.lt
      obtain ⟨W1,hW1⟩:∃ W1,wr.alloc (.cells #[.int .i64 k,.int .i64 n,.string nm,.slice a1 xs.length c1] 142)=W1:=⟨_,rfl⟩
      obtain ⟨B,hBe⟩:∃ B,wr.heap.size=B:=⟨_,rfl⟩
      have hX1:Blk W1 B #[.int .i64 k,.int .i64 n,.string nm,.slice a1 xs.length c1] 142:=by rw [← hW1,← hBe];exact Blk.new wr _ _
      have hO1:W1.ownsRow base 178 2 vo LB.length (cellsK LB):=by rw [← hW1];exact hOo.alloc _
      have hG1:Gr vo.ownBlock vo.ownBlock wr W1:=by rw [← hW1];exact (Gr.refl _ wr).alloc _
      have hS1:W1.heap.size=B+1:=by rw [← hW1,← hBe,World.size_alloc]
      have hbw2:base≤B:=by have:=HGO.out.size;omega
      rw [hBe] at hor
      have hvB:vo.ownBlock ≠ some B:=fun e=>by have:=(hor B e).2;omega
      have HX1:=Lib.hid hX1;clear hX1
      have HO1:=Lib.hid hO1;clear hO1 hOo
      have HG1:=Lib.hid hG1;clear hG1
      have HS1:=Lib.hid hS1;clear hS1
      have HW1:=Lib.hid hW1;clear hW1
      have HBE:=Lib.hid hBe;clear hBe
      have HOR:=Lib.hid (fun g hg=>(hor g hg).1);clear hor
      have HWB:=Lib.hid (hold0.trans (HG1.out.old hold0.size (fun g hg=>Nat.le_trans hB0 (HOR.out g hg))));clear hold0
      go_upto_region 4 with fail
      rw [HW1.out,HBE.out]
      clear HW1 g0 g1 g2 g3
      have k0:W1.cell? ⟨B,0,none⟩=some (.int .i64 k):=HX1.out.cell 0
      have kn:W1.cell? ⟨B,2,none⟩=some (.string nm):=HX1.out.cell 2
      go_upto_block 2 with fail
      go_cut [0] (fun s wx=>∃ v1,v1=s∧wx.ownsRow base 178 2 v1 (LB ++ headU nm b2 b4).length (cellsK (LB ++ headU nm b2 b4))∧Blk wx B #[.int .i64 k,.int .i64 n,.string nm,.slice a1 xs.length c1] 142∧Gr vo.ownBlock v1.ownBlock W1 wx)
      case first =>
       have hl1:LB.length+1≤maxLen:=by unfold maxLen;omega
       have hs1:W1.heap.size=B+1:=HS1.out
       have hb2:=HB2.out
       have hb4:=HB4.out
       cases b2 with
       | true =>
         have e4:b4=false:=by rw [← hb4];have h:=eq_of_beq hb2;subst h;rfl
         clear hb4
         subst e4
         have HNW:=Lib.hid (news_kuse W1 nm 1 (B+1) HS1.out)
         have hSZ:base≤(W1.alloc (.cells #[.string nm,.int .i64 1] 178)).heap.size:=by rw [World.size_alloc,HS1.out];omega
         have HSZ:=Lib.hid hSZ;clear hSZ
         go_wp2_with (first | (at_builtin;(with_reducible refine wpList_append_lies _ rfl (.tmp 17) (.tmp 21) 175 rfl base 178 i0 _ 2 24 Tryz.underlying175 HI0.out HZ0.out HZ1.out HZ2.out rfl (by omega) vo LB.length (cellsK LB) rfl (HO1.out.alloc _) ⟨_,0,none⟩ 1 1 [.string nm,.int .i64 1] rfl rfl HNW.out (kuse_one _ _) (by omega) hl1 (by omega) HSZ.out _ rfl ?_);(intro gg cap w4 hown4 hgrow hat hlt2)) | fail)
         go_meet
         exact ⟨_,rfl,by simpa [headU,cellsK,kindB] using hown4,blk_grown (HX1.out.alloc _) hgrow hvB,gr_grown ((Gr.refl _ W1).alloc _) hgrow (own_new hat)⟩
       | false =>
         cases b4 with
         | true =>
           have HNW:=Lib.hid (news_kuse W1 nm 2 (B+1) HS1.out)
           have hSZ:base≤(W1.alloc (.cells #[.string nm,.int .i64 2] 178)).heap.size:=by rw [World.size_alloc,HS1.out];omega
           have HSZ:=Lib.hid hSZ;clear hSZ
           go_wp2_with (first | (at_builtin;(with_reducible refine wpList_append_lies _ rfl (.tmp 25) (.tmp 29) 175 rfl base 178 i0 _ 2 24 Tryz.underlying175 HI0.out HZ0.out HZ1.out HZ2.out rfl (by omega) vo LB.length (cellsK LB) rfl (HO1.out.alloc _) ⟨_,0,none⟩ 1 1 [.string nm,.int .i64 2] rfl rfl HNW.out (kuse_one _ _) (by omega) hl1 (by omega) HSZ.out _ rfl ?_);(intro gg cap w4 hown4 hgrow hat hlt2)) | fail)
           go_meet
           exact ⟨_,rfl,by simpa [headU,cellsK,kindB] using hown4,blk_grown (HX1.out.alloc _) hgrow hvB,gr_grown ((Gr.refl _ W1).alloc _) hgrow (own_new hat)⟩
         | false =>
           clear hl1 hs1
           go_wp2_with fail
           go_meet
           exact ⟨_,rfl,by simpa [headU] using HO1.out,HX1.out,Gr.refl _ _⟩
      case rest =>
       obtain ⟨v1,rfl,hO2,hX2,hG2⟩:=hcut
       clear HX1 HO1 HB2 HB4 k0 kn
       have j3:wc.cell? ⟨B,3,none⟩=some (.slice a1 xs.length c1):=hX2.cell 3
       have hold:Below w0.heap.size w0 wc:=HWB.out.trans (hG2.old HWB.out.size (fun g hg=>Nat.le_trans hB0 (HOR.out g hg)))
       have hsz:base≤wc.heap.size:=by have:=hG2.size;have:=HS1.out;omega
       have HC:=Lib.hid (HT.out _ _ wc hold hsz hO2 (by rw [List.length_append];omega))
       have hf:=HFIN.out;clear HFIN
       rw [← List.append_assoc] at hf
       rw [hf] at HC
       have HG2:=Lib.hid hG2;clear hG2
       clear hold hsz hO2 hX2 hf
       go_wp2_with fail
       refine HC.out.mono ?_
       rintro e w2 ⟨v3,rfl,hO3,hG3⟩
       rw [← HFN.out] at hO3
       have HO3:=Lib.hid hO3;clear hO3
       have HG3:=Lib.hid (HGO.out.trans (HG1.out.trans (HG2.out.trans hG3)));clear hG3
       go_wp2_with fail
       go_roundw
       case rel=>exact ⟨v3,ii+1,rfl,by go_num,by omega,HO3.out,HG3.out⟩
       case measure=>simp [intOf];omega
    · obtain rfl:ii=l.length:=by omega
      have h0:=HOO.out
      rw [List.take_length,HPOST.out] at h0
      have HO3:=Lib.hid h0;clear h0
      go_wp2_with fail
      go_ret
      exact ⟨vo,rfl,HO3.out,HGO.out⟩
set_option maxRecDepth 100000 in
set_option maxHeartbeats 16000000 in
theorem inConds_any (w0:World) (base:Nat) (hB0:w0.heap.size≤base):∀ (N:Nat) (l:List Nd) (vl:Value) (L:List Us) (v:Value) (w:World),SizeOf.sizeOf l≤N→SlIn w0 .C l vl→Below w0.heap.size w0 w→base≤w.heap.size→w.ownsRow base 178 2 v L.length (cellsK L)→L.length+(usesL l).length≤1099511627776 →
    Calls Tryz.prog 148 #[v,vl] w (KUsedTo w base v (L ++ usesL l)):=by
 intro N
 induction N with
 | zero =>
   intro l vl L v w hN
   cases l <;> simp at hN
 | succ N ih =>
   intro l vl L v w hN hl hw hbw hown hlen
   obtain ⟨A,C,rfl,hlC,hcmC,hROW⟩:=hl
   have HROW:=Lib.hid hROW;clear hROW
   have HIH:=Lib.hid ih;clear ih
   obtain ⟨i0,hi0,hz0,hz1,hz2⟩:=info_parts info_wuse
   have HI0:=Lib.hid hi0;clear hi0
   have HZ0:=Lib.hid hz0;clear hz0
   have HZ1:=Lib.hid hz1;clear hz1
   have HZ2:=Lib.hid hz2;clear hz2
   obtain ⟨POST,hPOST⟩:∃ l',L ++ usesL l=l':=⟨_,rfl⟩
   rw [hPOST]
   have HPOST:=Lib.hid hPOST;clear hPOST
   have HOR0:=Lib.hid (fun g hg=>(hown.lt g hg).1)
   have HO0:=Lib.hid hown;clear hown
   have HHW:=Lib.hid hw;clear hw
   go_enter Tryz.func148,Tryz.ntmps148
   go_wp2_with fail
   go_loopw [0,9] (fun y x wr=>∃ (vo:Value) (ii:Nat),vo=y∧x=.int .i64 ii∧ii≤l.length∧wr.ownsRow base 178 2 vo (L ++ usesL (l.take ii)).length (cellsK (L ++ usesL (l.take ii)))∧Gr v.ownBlock vo.ownBlock w wr) (fun _ x _=>l.length - (intOf x).toNat)
   case atStart=>exact ⟨v,0,rfl,rfl,by omega,by rw [List.take_zero,usesL,List.append_nil];exact HO0.out,Gr.refl _ _⟩
   case round =>
    obtain ⟨vo,ii,rfl,rfl,hii,hOo,hGo⟩:=hrel
    have HOO:=Lib.hid hOo;clear hOo
    have HGO:=Lib.hid hGo;clear hGo
    by_cases hlt:ii < l.length
    · have hbii:(ii:Int)+1≤9223372036854775807:=by unfold maxLen at hcmC;omega
      have hxl0:¬ l.length=0:=by omega
      obtain ⟨b0,o0,rfl,hrow⟩:=HROW.out.resolve_left hxl0
      have hold0:Below w0.heap.size w0 wr:=HHW.out.trans (HGO.out.old HHW.out.size (fun g hg=>Nat.le_trans hB0 (HOR0.out g hg)))
      obtain ⟨hty,u0,u1,u2,u3,m0,m1,m2,m3,hnd⟩:=SlIn.item4 rfl hrow ii hlt
      have hsz0:=List.sizeOf_lt_of_mem (List.getElem_mem hlt)
      have kk:=keeps_below hold0
      have g0:=kk _ _ _ m0
      have g1:=kk _ _ _ m1
      have g2:=kk _ _ _ m2
      have g3:=kk _ _ _ m3
      have hle0:=usesL_at_le hlt
      have htk0:=usesL_take hlt
      clear m0 m1 m2 m3 kk hrow
      obtain ⟨X,hX⟩:∃ X,l[ii]=X:=⟨_,rfl⟩
      rw [hX] at hnd hty htk0 hle0 hsz0
      clear hX
      obtain ⟨ty,k,n,nm,xs,cs,ts,es⟩:=X
      simp only [Nd.ty] at hty
      subst hty
      unfold NdIn at hnd
      obtain ⟨hz,-,-,-,vx,vc,vt,ve,hvs,hxs,hcs,hts,hes⟩:=hnd
      simp only [fits] at hz
      obtain ⟨rfl,rfl,rfl⟩:=hz
      simp only [lay,List.cons.injEq,and_true] at hvs
      obtain ⟨rfl,rfl,rfl,rfl⟩:=hvs
      have hu:usesN (.mk .C k n ⟨#[]⟩ xs cs [] [])=usesL xs ++ usesL cs:=by unfold usesN;rfl
      rw [hu] at htk0 hle0
      clear hu
      simp only [Nd.mk.sizeOf_spec] at hsz0
      have HT2:=Lib.hid (fun L v w=>HIH.out cs _ L v w (by omega) hcs)
      have HT1:=Lib.hid (fun L v w=>inExprs_any w0 base hB0 _ xs _ L v w (Nat.le_refl _) hxs)
      obtain ⟨a1,c1,rfl,-⟩:=hxs
      obtain ⟨a2,c2,rfl,-⟩:=hcs
      rw [List.length_append] at hle0
      obtain ⟨LB,hLB⟩:∃ x,L ++ usesL (l.take ii)=x:=⟨_,rfl⟩
      have hOo:=HOO.out;clear HOO
      rw [hLB] at hOo
      obtain ⟨FIN,hFN⟩:∃ x,L ++ usesL (l.take (ii+1))=x:=⟨_,rfl⟩
      have hlenLB:=congrArg List.length hLB
      simp only [List.length_append] at hlenLB
      have HFN:=Lib.hid hFN
      have hfin:LB ++ (usesL xs ++ usesL cs)=FIN:=by rw [← hLB,← hFN,htk0,List.append_assoc]
      have HFIN:=Lib.hid hfin;clear hfin htk0 hLB hsz0 hFN
      have hor:∀ g,vo.ownBlock=some g→base≤g∧g < wr.heap.size:=hOo.lt
      obtain ⟨W1,hW1⟩:∃ W1,wr.alloc (.cells #[.int .i64 k,.int .i64 n,.slice a1 xs.length c1,.slice a2 cs.length c2] 150)=W1:=⟨_,rfl⟩
      obtain ⟨B,hBe⟩:∃ B,wr.heap.size=B:=⟨_,rfl⟩
      have hX1:Blk W1 B #[.int .i64 k,.int .i64 n,.slice a1 xs.length c1,.slice a2 cs.length c2] 150:=by rw [← hW1,← hBe];exact Blk.new wr _ _
      have hO1:W1.ownsRow base 178 2 vo LB.length (cellsK LB):=by rw [← hW1];exact hOo.alloc _
      have hG1:Gr vo.ownBlock vo.ownBlock wr W1:=by rw [← hW1];exact (Gr.refl _ wr).alloc _
      have hS1:W1.heap.size=B+1:=by rw [← hW1,← hBe,World.size_alloc]
      have hbw2:base≤B:=by have:=HGO.out.size;omega
      rw [hBe] at hor
      have hvB:vo.ownBlock ≠ some B:=fun e=>by have:=(hor B e).2;omega
      have HX1:=Lib.hid hX1;clear hX1
      have HO1:=Lib.hid hO1;clear hO1 hOo
      have HG1:=Lib.hid hG1;clear hG1
      have HS1:=Lib.hid hS1;clear hS1
      have HW1:=Lib.hid hW1;clear hW1
      have HBE:=Lib.hid hBe;clear hBe
      have HOR:=Lib.hid (fun g hg=>(hor g hg).1);clear hor
      have HWB:=Lib.hid (hold0.trans (HG1.out.old hold0.size (fun g hg=>Nat.le_trans hB0 (HOR.out g hg))));clear hold0
      go_upto_region 4 with fail
      rw [HW1.out,HBE.out]
      clear HW1 g0 g1 g2 g3
      have k2:W1.cell? ⟨B,2,none⟩=some (.slice a1 xs.length c1):=HX1.out.cell 2
      have k3:W1.cell? ⟨B,3,none⟩=some (.slice a2 cs.length c2):=HX1.out.cell 3
      have hsz1:base≤W1.drew.heap.size:=by rw [show W1.drew.heap.size=W1.heap.size from rfl,HS1.out];omega
      have HC1:=Lib.hid (HT1.out LB vo W1.drew HWB.out.drew hsz1 HO1.out.drew (by omega))
      clear hsz1
      have hf:=HFIN.out;clear HFIN
      rw [← List.append_assoc] at hf
      have HF:=Lib.hid hf;clear hf
      go_region_with (first | (go_at_call 147;(with_reducible refine HC1.out.mono ?_);rintro e w2 ⟨v2,rfl,hO2,hG2⟩;(have k3b:w2.cell? ⟨B,3,none⟩=some (.slice a2 cs.length c2):=(HX1.out.gr ((Gr.refl vo.ownBlock W1).drew.trans hG2) hvB).cell 3);(have hG3:Gr vo.ownBlock v2.ownBlock W1 w2:=(Gr.refl vo.ownBlock W1).drew.trans hG2);(have hold:Below w0.heap.size w0 w2:=HWB.out.trans (hG3.old HWB.out.size (fun g hg=>Nat.le_trans hB0 (HOR.out g hg))));(have hsz:base≤w2.heap.size:=by have:=hG3.size;have:=HS1.out;omega);(have HC2:=Lib.hid (HT2.out _ _ w2 hold hsz hO2 (by rw [List.length_append];omega)));(rw [HF.out] at HC2);(have HG3:=Lib.hid hG3);clear hG3 hG2 hO2 hold hsz) | (go_at_call 148;(with_reducible refine HC2.out.mono ?_);rintro e w3 ⟨v3,rfl,hO3,hG4⟩;(have HO3:=Lib.hid hO3);(have HG4:=Lib.hid (HG3.out.trans hG4));clear hO3 hG4))
      all_goals
       go_wp2_with fail
       go_roundw
       case rel=>exact ⟨_,ii+1,rfl,by go_num,by omega,by rw [HFN.out];exact HO3.out,HGO.out.trans (HG1.out.trans HG4.out)⟩
       case measure=>simp [intOf];omega
    · obtain rfl:ii=l.length:=by omega
      have h0:=HOO.out
      rw [List.take_length,HPOST.out] at h0
      have HO3:=Lib.hid h0;clear h0
      go_wp2_with fail
      go_ret
      exact ⟨vo,rfl,HO3.out,HGO.out⟩
def ownU:Nd→List Us
 | .mk _ k _ nm xs cs _ _=>headU nm (k == 1) (k == 2) ++ (usesL cs ++ usesL xs)
set_option maxRecDepth 100000 in
set_option maxHeartbeats 16000000 in
theorem suses_any (w0:World) (x:Nd) (us:List Value) (w:World) (hty:x.ty=.S) (hin:NdIn w0 x us) (hw:Below w0.heap.size w0 w) (hlen:(ownU x).length≤1099511627776) :
    Calls Tryz.prog 105 #[.agg us.toArray] w (fun e w'=>∃ v',e=.returned v'∧w'.ownsRow w.heap.size 178 2 v' (ownU x).length (cellsK (ownU x))∧Below w.heap.size w w'):=by
 obtain ⟨ty,k,n,nm,xs,cs,ts,es⟩:=x
 simp only [Nd.ty] at hty
 subst hty
 unfold NdIn at hin
 obtain ⟨hz,-,-,-,vx,vc,vt,ve,rfl,hxs,hcs,hts,hes⟩:=hin
 simp only [fits] at hz
 subst hz
 have hB0:=hw.size
 obtain ⟨base,hbase⟩:∃ b,w.heap.size=b:=⟨_,rfl⟩
 rw [hbase] at hB0 ⊢
 have HT2:=Lib.hid (fun L v w=>inConds_any w0 base hB0 _ cs _ L v w (Nat.le_refl _) hcs)
 have HT1:=Lib.hid (fun L v w=>inExprs_any w0 base hB0 _ xs _ L v w (Nat.le_refl _) hxs)
 obtain ⟨a1,c1,rfl,-⟩:=hcs
 obtain ⟨a2,c2,rfl,-⟩:=hxs
 obtain ⟨a3,c3,rfl,-⟩:=hts
 obtain ⟨a4,c4,rfl,-⟩:=hes
 change Calls _ _ #[.agg #[.int .i64 k,.string nm,.slice a2 xs.length c2,.slice a1 cs.length c1,.slice a3 ts.length c3,.slice a4 es.length c4]] w _
 obtain ⟨FIN,hFIN⟩:∃ l,ownU (.mk .S k 0 nm xs cs ts es)=l:=⟨_,rfl⟩
 rw [hFIN] at hlen ⊢
 change headU nm (k == 1) (k == 2) ++ (usesL cs ++ usesL xs)=FIN at hFIN
 obtain ⟨i0,hi0,hz0,hz1,hz2⟩:=info_parts info_wuse
 have HI0:=Lib.hid hi0;clear hi0
 have HZ0:=Lib.hid hz0;clear hz0
 have HZ1:=Lib.hid hz1;clear hz1
 have HZ2:=Lib.hid hz2;clear hz2
 obtain ⟨b2,hb2⟩:∃ b,(k == 1)=b:=⟨_,rfl⟩
 obtain ⟨b4,hb4⟩:∃ b,(k == 2)=b:=⟨_,rfl⟩
 rw [hb2,hb4] at hFIN
 have hle0:=congrArg List.length hFIN
 simp only [List.length_append] at hle0
 have HFIN:=Lib.hid hFIN;clear hFIN
 have HB2:=Lib.hid hb2;clear hb2
 have HB4:=Lib.hid hb4;clear hb4
 obtain ⟨W1,hW1⟩:∃ W1,w.alloc (.cells #[.int .i64 k,.string nm,.slice a2 xs.length c2,.slice a1 cs.length c1,.slice a3 ts.length c3,.slice a4 es.length c4] 57)=W1:=⟨_,rfl⟩
 obtain ⟨B,hBe⟩:∃ B,base=B:=⟨_,rfl⟩
 have hX1:Blk W1 B #[.int .i64 k,.string nm,.slice a2 xs.length c2,.slice a1 cs.length c1,.slice a3 ts.length c3,.slice a4 es.length c4] 57:=by rw [← hW1,← hBe,← hbase];exact Blk.new w _ _
 obtain ⟨vo,hvo⟩:∃ v,Value.slice none 0 0=v:=⟨_,rfl⟩
 obtain ⟨LB,hLB⟩:∃ l:List Us,[]=l:=⟨_,rfl⟩
 have hO1:W1.ownsRow base 178 2 vo LB.length (cellsK LB):=by rw [← hvo,← hLB];exact World.ownsRow_nil _ _ _ _
 have hG1:Below base w W1:=by rw [← hW1];exact (Below.refl _ w).alloc (by omega) _
 have hS1:W1.heap.size=B+1:=by rw [← hW1,World.size_alloc];omega
 have hvB:vo.ownBlock ≠ some B:=by rw [← hvo];intro h;cases h
 have hor:∀ g,vo.ownBlock=some g→base≤g:=by rw [← hvo];intro g h;cases h
 have hwb:Below w0.heap.size w0 W1:=hw.trans (hG1.mono hB0)
 have hbB:base≤B:=by omega
 have hfi:LB ++ headU nm b2 b4 ++ (usesL cs ++ usesL xs)=FIN:=by rw [← hLB];exact HFIN.out
 have hlb:LB.length≤0:=by rw [← hLB];exact Nat.le_refl _
 clear hLB HFIN
 have HFIN:=Lib.hid hfi;clear hfi
 have HX1:=Lib.hid hX1;clear hX1
 have HO1:=Lib.hid hO1;clear hO1
 have HG1:=Lib.hid hG1;clear hG1 hw
 have HS1:=Lib.hid hS1;clear hS1
 have HW1:=Lib.hid hW1;clear hW1
 have HBE:=Lib.hid hBe;clear hBe
 have HBA:=Lib.hid hbase;clear hbase
 have HOR:=Lib.hid hor;clear hor
 have HWB:=Lib.hid hwb;clear hwb
 have HVO:=Lib.hid hvo;clear hvo
 go_enter Tryz.func105,Tryz.ntmps105
 go_upto_region 2 with fail
 rw [HW1.out,HBA.out,HBE.out,HVO.out]
 clear HW1
 have k0:W1.cell? ⟨B,0,none⟩=some (.int .i64 k):=HX1.out.cell 0
 have kn:W1.cell? ⟨B,1,none⟩=some (.string nm):=HX1.out.cell 1
 go_upto_block 0 with fail
 go_cut [3] (fun s wx=>∃ v1,v1=s∧wx.ownsRow base 178 2 v1 (LB ++ headU nm b2 b4).length (cellsK (LB ++ headU nm b2 b4))∧Blk wx B #[.int .i64 k,.string nm,.slice a2 xs.length c2,.slice a1 cs.length c1,.slice a3 ts.length c3,.slice a4 es.length c4] 57∧Gr vo.ownBlock v1.ownBlock W1 wx)
 case first =>
  have hl1:LB.length+1≤maxLen:=by unfold maxLen;omega
  have hs1:W1.heap.size=B+1:=HS1.out
  have hb2:=HB2.out
  have hb4:=HB4.out
  cases b2 with
  | true =>
    have e4:b4=false:=by rw [← hb4];have h:=eq_of_beq hb2;subst h;rfl
    clear hb4
    subst e4
    have HNW:=Lib.hid (news_kuse W1 nm 1 (B+1) HS1.out)
    have hSZ:base≤(W1.alloc (.cells #[.string nm,.int .i64 1] 178)).heap.size:=by rw [World.size_alloc,HS1.out];omega
    have HSZ:=Lib.hid hSZ;clear hSZ
    go_wp2_with (first | (at_builtin;(with_reducible refine wpList_append_lies _ rfl (.tmp 8) (.tmp 12) 175 rfl base 178 i0 _ 2 24 Tryz.underlying175 HI0.out HZ0.out HZ1.out HZ2.out rfl (by omega) vo LB.length (cellsK LB) rfl (HO1.out.alloc _) ⟨_,0,none⟩ 1 1 [.string nm,.int .i64 1] rfl rfl HNW.out (kuse_one _ _) (by omega) hl1 (by omega) HSZ.out _ rfl ?_);(intro gg cap w4 hown4 hgrow hat hlt2)) | fail)
    go_meet
    exact ⟨_,rfl,by simpa [headU,cellsK,kindB] using hown4,blk_grown (HX1.out.alloc _) hgrow hvB,gr_grown ((Gr.refl _ W1).alloc _) hgrow (own_new hat)⟩
  | false =>
    cases b4 with
    | true =>
      have HNW:=Lib.hid (news_kuse W1 nm 2 (B+1) HS1.out)
      have hSZ:base≤(W1.alloc (.cells #[.string nm,.int .i64 2] 178)).heap.size:=by rw [World.size_alloc,HS1.out];omega
      have HSZ:=Lib.hid hSZ;clear hSZ
      go_wp2_with (first | (at_builtin;(with_reducible refine wpList_append_lies _ rfl (.tmp 16) (.tmp 20) 175 rfl base 178 i0 _ 2 24 Tryz.underlying175 HI0.out HZ0.out HZ1.out HZ2.out rfl (by omega) vo LB.length (cellsK LB) rfl (HO1.out.alloc _) ⟨_,0,none⟩ 1 1 [.string nm,.int .i64 2] rfl rfl HNW.out (kuse_one _ _) (by omega) hl1 (by omega) HSZ.out _ rfl ?_);(intro gg cap w4 hown4 hgrow hat hlt2)) | fail)
      go_meet
      exact ⟨_,rfl,by simpa [headU,cellsK,kindB] using hown4,blk_grown (HX1.out.alloc _) hgrow hvB,gr_grown ((Gr.refl _ W1).alloc _) hgrow (own_new hat)⟩
    | false =>
      clear hl1 hs1
      go_wp2_with fail
      go_meet
      exact ⟨_,rfl,by simpa [headU] using HO1.out,HX1.out,Gr.refl _ _⟩
 case rest =>
  obtain ⟨v1,rfl,hO2,hX2,hG2⟩:=hcut
  clear HX1 HO1 HB2 HB4 k0 kn
  obtain ⟨L1,hL1⟩:∃ l,LB ++ headU nm b2 b4=l:=⟨_,rfl⟩
  have hln1:L1.length+((usesL cs).length+(usesL xs).length)≤1099511627776:=by rw [← hL1,List.length_append];omega
  have hf:=HFIN.out;clear HFIN
  rw [hL1] at hf hO2
  rw [← List.append_assoc] at hf
  have HF:=Lib.hid hf;clear hf hL1
  have k3:wc.cell? ⟨B,3,none⟩=some (.slice a1 cs.length c1):=hX2.cell 3
  have k2:wc.cell? ⟨B,2,none⟩=some (.slice a2 xs.length c2):=hX2.cell 2
  have hold1:Below base W1 wc:=hG2.old (by have:=HS1.out;omega) HOR.out
  have HWC:=Lib.hid (HWB.out.trans (hold1.mono hB0))
  have HWD:=Lib.hid (HG1.out.trans hold1)
  have hsz1:base≤wc.drew.heap.size:=by rw [show wc.drew.heap.size=wc.heap.size from rfl];have:=hG2.size;have:=HS1.out;omega
  have hor1:∀ g,v1.ownBlock=some g→base≤g:=fun g hg=>(hO2.lt g hg).1
  have hvr:v1.ownBlock ≠ some B:=fun e=>by
   rcases hG2.2 with h | h
   · exact hvB (h.symm.trans e)
   · have:=h B e;have:=HS1.out;omega
  have HC1:=Lib.hid (HT2.out L1 v1 wc.drew HWC.out.drew hsz1 hO2.drew (by omega))
  have HOR1:=Lib.hid hor1;clear hor1
  have HX2:=Lib.hid hX2;clear hX2
  clear hsz1 hO2 hG2 hold1
  go_upto_region 7 with fail
  go_region_with (first | (go_at_call 148;(with_reducible refine HC1.out.mono ?_);rintro e w2 ⟨v2,rfl,hO2,hG2⟩;(have hG3:Gr v1.ownBlock v2.ownBlock wc w2:=(Gr.refl v1.ownBlock wc).drew.trans hG2);(have k2b:w2.cell? ⟨B,2,none⟩=some (.slice a2 xs.length c2):=(HX2.out.gr hG3 hvr).cell 2);(have hold:Below base wc w2:=hG3.old (by have:=HWD.out.size;have:=HBA.out;omega) HOR1.out);(have hsz:base≤w2.heap.size:=by have:=hG3.size;have:=HWD.out.size;have:=HBA.out;omega);(have HC2:=Lib.hid (HT1.out _ _ w2 (HWC.out.trans (hold.mono hB0)) hsz hO2 (by rw [List.length_append];omega)));(rw [HF.out] at HC2);(have HH2:=Lib.hid (HWD.out.trans hold));(have HOR2:=Lib.hid (fun g hg=>(hO2.lt g hg).1));(have HSZ2:=Lib.hid hsz);clear hG3 hG2 hO2 hold hsz) | (go_at_call 147;(with_reducible refine HC2.out.mono ?_);rintro e w3 ⟨v3,rfl,hO3,hG4⟩;(have HO3:=Lib.hid hO3);(have HH3:=Lib.hid (HH2.out.trans (hG4.old HSZ2.out HOR2.out)));clear hO3 hG4))
  all_goals
   go_wp2_with fail
   go_ret
   exact ⟨_,rfl,HO3.out,HH3.out⟩
end Go.Proofs.YtmohmggnjldddaaGreatDoor
