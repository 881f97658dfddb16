/-
  The lowering of blocks and programs: proved is that it lays the plain edges, for every block that has its form; and which limit a graph is past.
-/
import Derived.Test.YtmohmggnjldddaaGreatDoorQCfgO
import Derived.Test.YtmohmggnjldddaaGreatDoorQAbb
namespace Go.Proofs.YtmohmggnjldddaaGreatDoor
set_option maxHeartbeats 8000000
set_option maxRecDepth 100000
open Go Go.RowKit Go.Maps
def startL:Lw:=⟨0,0,0,[]⟩
def NewL (w:World) (v0 v1:Value) (VN:List ByteArray) (AN:List Nd):Ending→World→Prop:=fun e w'=>∃ K:Le,K.ok∧K.H0=w.heap.size∧K.E.pl=lookP (pairsV VN++pairsA AN)∧K.E.nv=VN.length∧K.vv=v0∧K.va=v1∧e=.returned (.pointer (some ⟨K.M,0,none⟩))∧Below w.heap.size w w'∧La K w' startL none
theorem newl_any (VN:List ByteArray) (AN:List Nd) (v0 v1:Value) (w:World) (base0 base1:Nat) (h0:w.ownsRow base0 9 1 v0 VN.length (cellsT VN)) (h1:w.ownsRow base1 104 2 v1 AN.length (cellsD AN)) (hV:VN.length≤32) (hA:AN.length≤16) (hn0:∀ x ∈ VN,x.size≤maxLen) (hn1:∀ x ∈ AN,(dNm x).size≤maxLen) :
    Calls Tryz.prog 16 #[v0,v1] w (NewL w v0 v1 VN AN):=by
 obtain ⟨a0,c0,rfl,hlc0,hrow0⟩:=own_str h0
 obtain ⟨a1,c1,rfl,hlc1,hrow1⟩:=own_cells h1
 obtain ⟨G,hG⟩:∃ G,w.heap.size=G:=⟨_,rfl⟩
 obtain ⟨W1,hW1⟩:∃ W1,w.alloc (.map #[] 0)=W1:=⟨_,rfl⟩
 have hm1:OwnM W1 G 0 (mapP []):=by rw [← hW1,← hG];exact World.ownsMap_made (H:=Unit) w Tryz.prog 9 (plainElem Tryz.prog 3)
 have hs1:W1.heap.size=G+1:=by rw [← hW1,World.size_alloc,hG]
 have hb1:Below w.heap.size w W1:=by rw [← hW1];exact (Below.refl _ w).alloc (Nat.le_refl _) _
 obtain ⟨W2,hW2⟩:∃ W2,W1.alloc (.cells #[.map (some G),.slice a0 VN.length c0,.int .i64 0,.slice a1 AN.length c1,.int .i64 0,.int .i64 0,.slice none 0 0] 68)=W2:=⟨_,rfl⟩
 have hm2:OwnM W2 G 0 (mapP []):=by rw [← hW2];exact hm1.alloc _
 have hx2:Blk W2 (G+1) #[.map (some G),.slice a0 VN.length c0,.int .i64 0,.slice a1 AN.length c1,.int .i64 0,.int .i64 0,.slice none 0 0] 68:=by rw [← hW2,← hs1];exact Blk.new W1 _ _
 have hb2:Below w.heap.size w W2:=by rw [← hW2];exact hb1.alloc hb1.size _
 obtain ⟨M,hM⟩:∃ M,G+1=M:=⟨_,rfl⟩
 rw [hM] at hx2
 have HS1:=zh hs1;clear hs1
 have HW1:=zh hW1;clear hW1
 have HW2:=zh hW2;clear hW2
 have HGE:=zh hG;clear hG
 have HM2:=zh (za hm2 (za hx2 hb2));clear hm1 hm2 hx2 hb1 hb2
 have HR0:=zh hrow0;clear hrow0 h0
 have HR1:=zh hrow1;clear hrow1 h1
 have HM:=zh hM;clear hM
 have HSZ:=zh (za hn0 hn1);clear hn0 hn1
 have hmm:=@run_makeMap Tryz.prog
 go_enter Tryz.func16,Tryz.ntmps16
 go_upto_block 0 with fail
 rw [HGE.out,HM.out,HW1.out,HW2.out]
 go_wp2_with fail
 go_loopw [18] (fun x wr=>∃ (i:Nat),x=.int .i64 i∧i≤VN.length∧OwnM wr G i (mapP ((pairsV VN).take i))∧Blk wr M #[.map (some G),.slice a0 VN.length c0,.int .i64 0,.slice a1 AN.length c1,.int .i64 0,.int .i64 0,.slice none 0 0] 68∧Below w.heap.size w wr) (fun x _=>VN.length - (intOf x).toNat)
 case atStart=>exact ⟨0,rfl,by omega,by rw [List.take_zero];exact HM2.out.1,HM2.out.2.1,HM2.out.2.2⟩
 case round =>
  obtain ⟨i,rfl,hi,hMr,hXr,hBr⟩:=hrel
  clear HM2
  by_cases hlt:i<VN.length
  · have hbi:(i:Int)+1≤9223372036854775807:=by omega
    obtain ⟨g,rfl,hrow⟩:=HR0.out.resolve_left (by omega)
    have k0:=(hBr.cell (p:=⟨g,i,none⟩) (World.block_lt_of_cell? w _ (hrow i hlt))).trans (hrow i hlt)
    have m0:wr.cell? ⟨M,0,none⟩=some (.map (some G)):=hXr.cell 0
    obtain ⟨w5,hrun,hown5,hgrow5⟩:=upd_any hMr (by unfold maxLen;omega) VN[i] (HSZ.out.1 _ (List.getElem_mem hlt)) i (by omega)
    have hMG:M≠G:=by have:=HM.out;omega
    have hX5:=blk_grown hXr hgrow5 (fun e=>hMG (by simpa using e.symm))
    have hB5:=below_grown hBr hBr.size hgrow5 (fun q hq=>by have:=HGE.out;simp only [Option.some.injEq] at hq;omega)
    rw [← mapP_snoc _ (VN[i],i),← pairsV_at VN i hlt] at hown5
    have H5:=zh (za hown5 (za hX5 hB5))
    obtain ⟨NM,hNM⟩:∃ x,VN[i]=x:=⟨_,rfl⟩
    rw [hNM] at k0 hrun
    clear hown5 hX5 hB5 hgrow5 hMr hXr hBr hrow hNM
    go_wp2_with fail
    go_roundw
    case rel=>exact ⟨i+1,by go_num,by omega,H5.out.1,H5.out.2.1,H5.out.2.2⟩
    case measure=>simp [intOf];omega
  · obtain rfl:i=VN.length:=by omega
    clear hmm hlt hi HR0
    rw [List.take_of_length_le (by simp [pairsV])] at hMr
    have HN:=zh (za hMr (za hXr hBr))
    clear hMr hXr hBr
    go_upto_block 2 with fail
    obtain ⟨wo,hwo⟩:∃ x,x=wr:=⟨_,rfl⟩
    subst hwo
    clear HW1 HW2 HS1
    go_wp2_with fail
    go_loopw [32] (fun x wr=>∃ (i:Nat),x=.int .i64 i∧i≤AN.length∧OwnM wr G (VN.length+i) (mapP (pairsV VN++(pairsA AN).take i))∧Blk wr M #[.map (some G),.slice a0 VN.length c0,.int .i64 0,.slice a1 AN.length c1,.int .i64 0,.int .i64 0,.slice none 0 0] 68∧Below w.heap.size w wr) (fun x _=>AN.length - (intOf x).toNat)
    case atStart=>exact ⟨0,rfl,by omega,by rw [List.take_zero,List.append_nil];exact HN.out.1,HN.out.2.1,HN.out.2.2⟩
    case round =>
     obtain ⟨i,rfl,hi,hMr,hXr,hBr⟩:=hrel
     clear HN
     by_cases hlt:i<AN.length
     · have hbi:(i:Int)+1≤9223372036854775807:=by omega
       obtain ⟨g,rfl,hrow⟩:=HR1.out.resolve_left (by omega)
       obtain ⟨c0',c1'⟩:=cellsD_at AN i hlt
       have d0:=hrow _ _ c0'
       have d1:=hrow _ _ c1'
       have hglt:=World.block_lt_of_cell? w _ d0
       have d0:=(hBr.cell (p:=⟨g,i * 2,none⟩) hglt).trans d0
       have d1:=(hBr.cell (p:=⟨g,i * 2+1,none⟩) hglt).trans d1
       have hnz:=HSZ.out.2 _ (List.getElem_mem hlt)
       obtain ⟨z,hz⟩:∃ z:Int,dSz AN[i]=z:=⟨_,rfl⟩
       rw [hz] at d1
       obtain ⟨W4,hW4⟩:∃ W4,wr.alloc (.cells #[.string (dNm AN[i]),.int .i64 z] 104)=W4:=⟨_,rfl⟩
       obtain ⟨X,hX⟩:∃ X,wr.heap.size=X:=⟨_,rfl⟩
       have hx4:Blk W4 X #[.string (dNm AN[i]),.int .i64 z] 104:=by rw [← hW4,← hX];exact Blk.new wr _ _
       have hM4:=hXr.alloc (.cells #[.string (dNm AN[i]),.int .i64 z] 104)
       have hm4:=hMr.alloc (.cells #[.string (dNm AN[i]),.int .i64 z] 104)
       have hB4:=hBr.alloc hBr.size (.cells #[.string (dNm AN[i]),.int .i64 z] 104)
       rw [hW4] at hM4 hm4 hB4
       obtain ⟨w5,hrun,hown5,hgrow5⟩:=upd_any (w:=W4.drew) (World.ownsMap.drew hm4) (by unfold maxLen;omega) (dNm AN[i]) hnz i (by omega)
       have hMG:M≠G:=by have:=HM.out;omega
       have hM5:=blk_grown (show Blk W4.drew M _ _ from hM4) hgrow5 (fun e=>hMG (by simpa using e.symm))
       have hB5:=below_grown (show Below w.heap.size w W4.drew from hB4.drew) hB4.size hgrow5 (fun q hq=>by have:=HGE.out;simp only [Option.some.injEq] at hq;omega)
       rw [← mapP_snoc _ (dNm AN[i],i),List.append_assoc,← pairsA_at AN i hlt] at hown5
       have a0':W4.cell? ⟨M,0,none⟩=some (.map (some G)):=hM4.cell 0
       have b0:W4.cell? ⟨X,0,none⟩=some (.string (dNm AN[i])):=hx4.cell 0
       have H5:=zh (za hown5 (za hM5 hB5))
       have HE4:=zh (za hW4 hX)
       obtain ⟨NM,hNM⟩:∃ x,dNm AN[i]=x:=⟨_,rfl⟩
       rw [hNM] at d0 b0 hrun HE4
       clear hown5 hM5 hB5 hgrow5 hMr hXr hBr hrow hNM hW4 hX hx4 hM4 hm4 hB4 c0' c1' hglt hnz hMG hz
       go_upto_region 10 with fail
       rw [HE4.out.1,HE4.out.2]
       go_region
       all_goals
        go_wp2_with fail
        go_roundw
        case rel=>exact ⟨i+1,by go_num,by omega,H5.out.1,H5.out.2.1,H5.out.2.2⟩
        case measure=>simp [intOf];omega
     · obtain rfl:i=AN.length:=by omega
       rw [List.take_of_length_le (by simp [pairsA])] at hMr
       have HZ:=zh (za hMr (za hXr hBr))
       clear hMr hXr hBr
       go_wp2_with fail
       go_ret
       obtain ⟨hMr,hXr,hBr⟩:=HZ.out
       have hGe:=HGE.out
       have hMe:=HM.out
       have hlM:=hXr.lt
       have hlG:=hMr.lt
       refine ⟨{ E:=⟨lookP (pairsV VN++pairsA AN),VN.length⟩,M:=M,G:=G,gn:=VN.length+AN.length,D:=mapP (pairsV VN++pairsA AN),vv:=.slice a0 VN.length c0,va:=.slice a1 AN.length c1,H0:=w.heap.size,B1:=wr.heap.size },?_,rfl,rfl,rfl,rfl,rfl,rfl,hBr,.slice none 0 0,?_,rfl⟩
       · exact
          { look:=fun nm=>mapP_at _ nm
            m0:=by show w.heap.size≤M;omega
            b0:=hBr.size
            m1:=hlM
            g1:=hlG
            mg:=by show M≠G;omega
            vv:=⟨a0,c0,rfl⟩
            few:=by show VN.length≤64;omega }
       · exact
          { mach:=hXr
            eds:=World.ownsRow_nil _ _ _ _
            map:=hMr
            size:=Nat.le_refl _
            p0:=Int.le_refl _
            t0:=Int.le_refl _
            t1:=by decide }
theorem kids_lt {x y:Nd} (h:y ∈ thenN x∨y ∈ elseN x):SizeOf.sizeOf y<SizeOf.sizeOf x:=by
 obtain ⟨ty,k,n,nm,xs,cs,ts,es⟩:=x
 simp only [Nd.mk.sizeOf_spec]
 rcases h with h | h
 · have:=List.sizeOf_lt_of_mem (show y ∈ ts from h);omega
 · have:=List.sizeOf_lt_of_mem (show y ∈ es from h);omega
theorem fm_kids {x:Nd} (hok:fmN x):fmL .S (thenN x)∧fmL .S (elseN x):=by
 obtain ⟨ty,k,n,nm,xs,cs,ts,es⟩:=x
 unfold fmN at hok
 exact ⟨hok.2.2.2.1,hok.2.2.2.2⟩
theorem fm_kind {x:Nd} (hty:x.ty=.S) (hok:fmN x):1≤kindN x∧kindN x≤7:=by
 obtain ⟨ty,k,n,nm,xs,cs,ts,es⟩:=x
 simp only [Nd.ty] at hty
 subst hty
 unfold fmN at hok
 exact ⟨hok.1.1,hok.1.2.1⟩
theorem st_any (K:Le) (hk:K.ok) (w0:World) (hH:w0.heap.size≤K.H0) (htab:TabK w0):∀ (N:Nat) (x:Nd),SizeOf.sizeOf x≤N→x.ty=.S→fmN x→1≤kindN x∧kindN x≤7∧StC K w0 (wayF (kindN x)) x:=by
 intro N
 induction N with
 | zero =>
   intro x hN
   obtain ⟨ty,k,n,nm,xs,cs,ts,es⟩:=x
   simp only [Nd.mk.sizeOf_spec] at hN
   omega
 | succ N ih =>
   intro x hN hty hok
   obtain ⟨h1,h7⟩:=fm_kind hty hok
   obtain ⟨hT,hE⟩:=fm_kids hok
   have hbT:BlkC K w0 (thenN x):=block_of K hk w0 hH _ (fun i hi=>by
    have:=kids_lt (x:=x) (.inl (List.getElem_mem hi))
    exact ih _ (by omega) (fmL_at hT i hi).1 (fmL_at hT i hi).2)
   have hbE:BlkC K w0 (elseN x):=block_of K hk w0 hH _ (fun i hi=>by
    have:=kids_lt (x:=x) (.inr (List.getElem_mem hi))
    exact ih _ (by omega) (fmL_at hE i hi).1 (fmL_at hE i hi).2)
   refine ⟨h1,h7,?_⟩
   have hc:kindN x=1∨kindN x=2∨kindN x=3∨kindN x=4∨kindN x=5∨kindN x=6∨kindN x=7:=by omega
   rcases hc with e | e | e | e | e | e | e
   · rw [e];exact assign_any K hk w0 hH htab x hty e hok
   · rw [e];exact store_any K hk w0 hH htab x hty e hok
   · rw [e];exact branch_any K hk w0 hH htab x hty e hok hbT hbE
   · rw [e];exact loop_any K hk w0 hH htab x hty e hok hbT
   · rw [e];exact assert_any K hk w0 hH htab x hty e hok
   · rw [e];exact assume_any K hk w0 hH htab x hty e hok
   · rw [e];exact skip_any K hk w0 hH htab x hty e hok
theorem blk_any (K:Le) (hk:K.ok) (w0:World) (hH:w0.heap.size≤K.H0) (htab:TabK w0) (l:List Nd) (hl:fmL .S l):BlkC K w0 l :=
 block_of K hk w0 hH l (fun i hi=>st_any K hk w0 hH htab _ _ (Nat.le_refl _) (fmL_at hl i hi).1 (fmL_at hl i hi).2)
theorem program_any (K:Le) (hk:K.ok) (w0:World) (hH:w0.heap.size≤K.H0) (htab:TabK w0) (ss:List Nd) (hfm:fmL .S ss) (hsz:szL ss≤4096) (v:Value) (w:World) (hin:SlIn w0 .S ss v) (hw:Below w0.heap.size w0 w) (r:Option Nat) (h:La K w startL r) :
    Calls Tryz.prog 17 #[.pointer (some ⟨K.M,0,none⟩),v] w (Lows K unitT r w (lowP K.E ss)):=by
 have hsv:∃ a c,v=.slice a ss.length c:=by obtain ⟨a,c,h,-⟩:=hin;exact ⟨a,c,h⟩
 obtain ⟨a,c,rfl⟩:=hsv
 have HFR:=zh (show Calls Tryz.prog 37 #[.pointer (some ⟨K.M,0,none⟩)] w (Lows K (.int .i64 0) r w ⟨1,0,0,[]⟩) from fresh_any K hk startL r w h ⟨by show (0:Int)+_≤_;omega,by show 0+1≤_;omega⟩)
 have HBG:=zh (fun r w (h:La K w ⟨1,0,0,[]⟩ r)=>beginning_any K hk ⟨1,0,0,[]⟩ r ss _ 0 w0 w hin h ⟨by show (1:Int)+_≤_;omega,by show 0+1≤_;omega⟩)
 have HBL:=zh (blk_any K hk w0 hH htab ss hfm)
 unfold lowP
 obtain ⟨P,hP⟩:∃ p,begP ss.isEmpty 0 ⟨1,0,0,[]⟩=p:=⟨_,rfl⟩
 obtain ⟨S1,hS⟩:∃ p,begS ss.isEmpty ⟨1,0,0,[]⟩=p:=⟨_,rfl⟩
 have hgw:=Gw.beg ss.isEmpty ⟨1,0,0,[]⟩
 rw [hS] at hgw
 rw [hP,hS]
 simp only [hP,hS] at HBG
 have HFW:=zh (show Few ({ S1 with ext:=P }:Lw) (8 * szL ss) from ⟨by have h1:S1.pts≤(1:Int)+((1:Nat):Int):=hgw.p1;show S1.pts+_≤_;omega,by have h1:S1.eds.length≤0+0:=hgw.e1;show S1.eds.length+_≤_;omega⟩)
 have HH:=zh (za hin (za hw (za h hsz)))
 clear hgw hP hS hin hw h hfm htab hsz
 go_enter Tryz.func17,Tryz.ntmps17
 go_upto_region 1 with (first | (go_at_call 37;(with_reducible refine HFR.out.mono ?_);rintro e w2 ⟨rfl,r2,hk2,h2⟩;have H2:=zh (za hk2 h2);clear hk2 h2) | fail)
 go_upto_region 2 with (first | (go_at_call 38;(with_reducible refine (HBG.out _ _ H2.out.2).mono ?_);rintro e w3 ⟨rfl,r3,hk3,h3⟩;have z5:w3.frozen? ⟨K.M,5,none⟩=false:=(by obtain ⟨ve,hm,he⟩:=h3;exact hm.mach.free 5);have c5:w3.cell? ⟨K.M,5,none⟩=some (.int .i64 S1.ext):=(by obtain ⟨ve,hm,he⟩:=h3;exact hm.mach.cell 5);have H3:=zh (za hk3 h3);clear hk3 h3) | fail)
 have ho:Only K.M w3 (w3.setCell ⟨K.M,5,none⟩ (.int .i64 P)):=(Only.refl K.M w3).setCell (p:=⟨K.M,5,none⟩) rfl _
 have h4:La K (w3.setCell ⟨K.M,5,none⟩ (.int .i64 P)) { S1 with ext:=P } r3:=by
  obtain ⟨ve,hm,he⟩:=H3.out.2
  have hX2:=hm.mach.set 5 (.int .i64 P)
  exact ⟨ve,hm.setM (s':={ S1 with ext:=P }) hk ho hX2 hm.eds hm.p0 hm.t0 hm.t1,he⟩
 have hkr4:=(H2.out.1.trans H3.out.1).trans (Kl.onlyM ho)
 obtain ⟨W4,hW4⟩:∃ W,w3.setCell ⟨K.M,5,none⟩ (.int .i64 P)=W:=⟨_,rfl⟩
 rw [hW4] at h4 hkr4
 rw [hW4]
 have c5:W4.cell? ⟨K.M,5,none⟩=some (.int .i64 P):=by obtain ⟨ve,hm,he⟩:=h4;exact hm.mach.cell 5
 have HB:=zh (HBL.out _ 0 P _ r3 W4 HH.out.1 (HH.out.2.1.trans ((hkr4.old hk HH.out.2.2.1).mono hH)) h4 HFW.out (by have:=HH.out.2.2.2;omega))
 have HK:=zh hkr4
 clear ho h4 hkr4 hW4 z5
 go_wp2_with (first | (go_at_call 39;(with_reducible refine HB.out.mono ?_);rintro e w5 ⟨rfl,r5,hk5,h5⟩) | fail)
 go_end0
 exact ⟨rfl,r5,HK.out.trans hk5,h5⟩
def outF (nv tmp pts ne:Int):Int:=if tmp<0∨64 - nv<tmp then 90 else if pts<1∨4096<pts∨8192<ne then 91 else 0
theorem outgrown_any (av aa ae:Option Addr) (nv cv na ca ne ce:Nat) (hnv:nv≤9223372036854775807) (tmp pts ext:Int) (w:World) :
    Calls Tryz.prog 18 #[.agg #[.slice av nv cv,.int .i64 tmp,.slice aa na ca,.int .i64 pts,.int .i64 ext,.slice ae ne ce]] w (fun e w'=>e=.returned (.int .i64 (outF nv tmp pts ne))∧Below w.heap.size w w'):=by
 have hb:Below w.heap.size w (w.alloc (.cells #[.slice av nv cv,.int .i64 tmp,.slice aa na ca,.int .i64 pts,.int .i64 ext,.slice ae ne ce] 30)):=(Below.refl _ w).alloc (Nat.le_refl _) _
 have hb1:(64:Int) - (nv:Int)≤9223372036854775807:=by omega
 have hb2:-9223372036854775808≤(64:Int) - (nv:Int):=by omega
 obtain ⟨F,hF⟩:∃ f,outF nv tmp pts ne=f:=⟨_,rfl⟩
 rw [hF]
 unfold outF at hF
 have HB:=zh hb
 clear hb
 by_cases q1:tmp<0
 · rw [if_pos (.inl q1)] at hF
   subst hF
   have t1:decide (tmp<0)=true:=by simpa using q1
   clear q1
   go_enter Tryz.func18,Tryz.ntmps18
   go_wp2_with fail
   go_ret
   exact ⟨rfl,HB.out⟩
 have t1:decide (tmp<0)=false:=by simpa using q1
 by_cases q2:64 - (nv:Int)<tmp
 · rw [if_pos (.inr q2)] at hF
   subst hF
   have t2:decide (64 - (nv:Int)<tmp)=true:=by simpa using q2
   clear q1 q2
   go_enter Tryz.func18,Tryz.ntmps18
   go_wp2_with fail
   go_ret
   exact ⟨rfl,HB.out⟩
 have t2:decide (64 - (nv:Int)<tmp)=false:=by simpa using q2
 rw [if_neg (by omega)] at hF
 by_cases q3:pts<1
 · rw [if_pos (.inl q3)] at hF
   subst hF
   have t3:decide (pts<1)=true:=by simpa using q3
   clear q1 q2 q3
   go_enter Tryz.func18,Tryz.ntmps18
   go_wp2_with fail
   go_ret
   exact ⟨rfl,HB.out⟩
 have t3:decide (pts<1)=false:=by simpa using q3
 by_cases q4:4096<pts
 · rw [if_pos (.inr (.inl q4))] at hF
   subst hF
   have t4:decide (4096<pts)=true:=by simpa using q4
   clear q1 q2 q3 q4
   go_enter Tryz.func18,Tryz.ntmps18
   go_wp2_with fail
   go_ret
   exact ⟨rfl,HB.out⟩
 have t4:decide (4096<pts)=false:=by simpa using q4
 by_cases q5:8192<(ne:Int)
 · rw [if_pos (.inr (.inr q5))] at hF
   subst hF
   have t5:decide (8192<(ne:Int))=true:=by simpa using q5
   clear q1 q2 q3 q4 q5
   go_enter Tryz.func18,Tryz.ntmps18
   go_wp2_with fail
   go_ret
   exact ⟨rfl,HB.out⟩
 · rw [if_neg (by omega)] at hF
   subst hF
   have t5:decide (8192<(ne:Int))=false:=by simpa using q5
   clear q1 q2 q3 q4 q5
   go_enter Tryz.func18,Tryz.ntmps18
   go_wp2_with fail
   go_ret
   exact ⟨rfl,HB.out⟩
end Go.Proofs.YtmohmggnjldddaaGreatDoor
