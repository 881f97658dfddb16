/-
  The document's Check and Size of a program (gnomonref3's): proved is what each answers, that Check's answer is the project's, and that neither turns anything that lay.
-/
import Derived.Test.YtmohmggnjldddaaGreatDoorQWellP
import Derived.Deep.RegionWith
import Derived.WalkMore
import Derived.Deep.QuietTactic
import Derived.BigQuiet
import Derived.Test.YtmohmggnjldddaaGreatDoorQOwn
import Derived.Test.YtmohmggnjldddaaGreatDoorQUsesC
namespace Go.Proofs.YtmohmggnjldddaaGreatDoor
open Go Go.RowKit Go.Maps
set_option maxRecDepth 100000 in
theorem kindOf_any (nm:ByteArray) (n:Int) (w:World):Calls Tryz.prog 35 #[.agg #[.string nm,.int .i64 n]] w (fun e w'=>e=.returned (.int .i64 (kD n))∧Below w.heap.size w w'):=by
 unfold kD
 by_cases h:n=0
 · rw [if_pos h]
   have h1:(n == 0)=true:=by simpa using h
   clear h
   go_enter Tryz.func35,Tryz.ntmps35
   go_wp2_with fail
   go_ret
   exact ⟨rfl,(Below.refl _ w).alloc (Nat.le_refl _) _⟩
 · rw [if_neg h]
   have h1:(n == 0)=false:=by simpa using h
   clear h
   go_enter Tryz.func35,Tryz.ntmps35
   go_wp2_with fail
   go_ret
   exact ⟨rfl,(Below.refl _ w).alloc (Nat.le_refl _) _⟩
theorem most_one (w:World):Calls Tryz.prog 103 #[.int .i64 1] w (fun e w'=>e=.returned (.int .i64 32)∧w'=w):=by
 go_enter Tryz.func103,Tryz.ntmps103
 go_wp2_with fail
 go_ret
 exact ⟨rfl,rfl⟩
theorem most_two (w:World):Calls Tryz.prog 103 #[.int .i64 2] w (fun e w'=>e=.returned (.int .i64 16)∧w'=w):=by
 go_enter Tryz.func103,Tryz.ntmps103
 go_wp2_with fail
 go_ret
 exact ⟨rfl,rfl⟩
abbrev OwnM (w:World) (M n:Nat) (D:DataW Unit):Prop:=w.ownsMap Tryz.prog 9 (plainElem Tryz.prog 3) M n D
def DeclTo (w:World) (M:Nat) (ds:List Nd):Ending→World→Prop:=fun e w'=>e=.returned (.tuple #[.string (declW [] ds).1,.int .i64 (declW [] ds).2])∧w.grownBy w' (some M)∧((declW [] ds).2=0→OwnM w' M ds.length (mapD ds))
set_option maxRecDepth 100000 in
set_option maxHeartbeats 16000000 in
theorem declare_any (w0:World) (ds:List Nd) (vd:Value) (w:World) (M:Nat) (hd:SlIn w0 .D ds vd) (hw:Below w0.heap.size w0 w) (hM0:w0.heap.size≤M) (hm:OwnM w M 0 (mapD [])) :
    Calls Tryz.prog 53 #[.map (some M),vd] w (DeclTo w M ds):=by
 obtain ⟨A,C,rfl,hlC,hcmC,hROW⟩:=hd
 have HROW:=Lib.hid hROW;clear hROW
 have hMw:=hm.lt
 have HHW:=Lib.hid hw;clear hw
 have HM0:=Lib.hid hm;clear hm
 obtain ⟨POST,hPOST⟩:∃ P,declW [] ds=P:=⟨_,rfl⟩
 unfold DeclTo
 rw [hPOST]
 have HPOST:=Lib.hid hPOST;clear hPOST
 obtain ⟨B,hBe⟩:∃ B,w.heap.size=B:=⟨_,rfl⟩
 obtain ⟨W1,hW1⟩:∃ W1,w.alloc (.cells #[.int .i64 0,.int .i64 0,.int .i64 0] 172)=W1:=⟨_,rfl⟩
 have hX1:Blk W1 B #[.int .i64 0,.int .i64 0,.int .i64 0] 172:=by rw [← hW1,← hBe];exact Blk.new w _ _
 have hG1:Gr (some M) (some M) w W1:=by rw [← hW1];exact (Gr.refl _ w).alloc _
 have hM1:OwnM W1 M 0 (mapD []):=by rw [← hW1];exact HM0.out.alloc _
 have hS1:B < W1.heap.size:=by rw [← hW1,World.size_alloc];omega
 rw [hBe] at hMw
 have hMB:M ≠ B:=by omega
 have HX1:=Lib.hid hX1;clear hX1
 have HG1:=Lib.hid hG1;clear hG1
 have HM1:=Lib.hid hM1;clear hM1 HM0
 have HS1:=Lib.hid hS1;clear hS1
 have HW1:=Lib.hid hW1;clear hW1
 have HBE:=Lib.hid hBe;clear hBe
 go_enter Tryz.func53,Tryz.ntmps53
 go_wp2_with fail
 go_step3
 go_wp2_with fail
 go_step3
 rw [HW1.out,HBE.out]
 clear HW1
 have hGW:w0.heap.size≤w.heap.size:=HHW.out.size
 have HGW:=Lib.hid hGW;clear hGW
 go_wp2_with fail
 go_loopw [4,5,12] (fun s4 s5 x wr=>∃ (i:Nat),s4=.string ⟨#[]⟩∧s5=.int .i64 0∧x=.int .i64 i∧i≤ds.length∧declW (ds.take i) (ds.drop i)=POST∧OwnM wr M i (mapD (ds.take i))∧Blk wr B #[.int .i64 0,.int .i64 (cntK (ds.take i) 1),.int .i64 (cntK (ds.take i) 2)] 172∧Gr (some M) (some M) w wr) (fun _ _ x _=>ds.length - (intOf x).toNat)
 case atStart=>exact ⟨0,rfl,rfl,rfl,by omega,by rw [List.take_zero,List.drop_zero];exact HPOST.out,by rw [List.take_zero];exact HM1.out,by rw [List.take_zero];exact HX1.out,HG1.out⟩
 case round =>
  obtain ⟨i,rfl,rfl,rfl,hi,hPr,hMr,hXr,hGr⟩:=hrel
  clear HM1 HX1 HG1 HPOST
  have HG:=Lib.hid hGr;clear hGr
  by_cases hlt:i < ds.length
  · have hbi:(i:Int)+1≤9223372036854775807:=by unfold maxLen at hcmC;omega
    have hxl:¬ ds.length=0:=by omega
    obtain ⟨b,o,rfl,hrow⟩:=HROW.out.resolve_left hxl
    have hold:Below w0.heap.size w0 wr:=HHW.out.trans (HG.out.old HGW.out (fun g hg=>by cases hg;exact hM0))
    obtain ⟨hty,u0,u1,m0,m1,hnd⟩:=SlIn.item2 rfl hrow i hlt
    have kk:=keeps_below hold
    have g0:=kk _ _ _ m0
    have g1:=kk _ _ _ m1
    have hpa:=declW_at hlt
    have hma:=mapD_snoc (ds.take i) ds[i]
    have hc1:=cntK_snoc (ds.take i) ds[i] 1
    have hc2:=cntK_snoc (ds.take i) ds[i] 2
    rw [List.take_append_getElem hlt] at hma hc1 hc2
    clear m0 m1 kk hrow hold
    obtain ⟨X,hX⟩:∃ X,ds[i]=X:=⟨_,rfl⟩
    rw [hX] at hnd hty hpa hma hc1 hc2
    clear hX
    obtain ⟨ty,k,n,nm,xs,cs,ts,es⟩:=X
    simp only [Nd.ty] at hty
    subst hty
    unfold NdIn at hnd
    obtain ⟨hz,-,-,hnm,vx,vc,vt,ve,hvs,-⟩:=hnd
    simp only [lay,List.cons.injEq,and_true] at hvs
    obtain ⟨rfl,rfl⟩:=hvs
    clear hz
    simp only [dNm,dSz] at hma hc1 hc2
    rw [hPr] at hpa
    have hat:=mapD_at (ds.take i) nm
    have hkey:keyOf Tryz.prog 9 (.string nm)=some (keyS nm):=WideMaps.keyOf_string_mk (by kernel_rfl) hnm
    have hdf:dF (ds.take i) (.mk .D k n nm xs cs ts es)=if lookL (ds.take i) nm ≠ 0 then 60 else if 1024 < n then 61 else if mostK (kD n) < (cntK (ds.take i) (kD n):Int)+1 then 62 else 0:=rfl
    have hdn:dNm (.mk .D k n nm xs cs ts es)=nm:=rfl
    rw [hdf,hdn] at hpa
    clear hdf hdn
    have hcl1:=cntK_le (ds.take i) 1
    have hcl2:=cntK_le (ds.take i) 2
    rw [List.length_take] at hcl1 hcl2
    have hb1:(cntK (ds.take i) 1:Int)+1≤9223372036854775807:=by unfold maxLen at hcmC;omega
    have hb2:(cntK (ds.take i) 2:Int)+1≤9223372036854775807:=by unfold maxLen at hcmC;omega
    clear hcl1 hcl2
    obtain ⟨c0,hc0⟩:∃ c,lookL (ds.take i) nm=c:=⟨_,rfl⟩
    rw [hc0] at hat hpa
    obtain ⟨n1,hn1⟩:∃ c,cntK (ds.take i) 1=c:=⟨_,rfl⟩
    obtain ⟨n2,hn2⟩:∃ c,cntK (ds.take i) 2=c:=⟨_,rfl⟩
    rw [hn1] at hc1 hb1 hXr
    rw [hn2] at hc2 hb2 hXr
    obtain ⟨DM,hDM⟩:∃ D,mapD (ds.take i)=D:=⟨_,rfl⟩
    rw [hDM] at hat hma hMr
    obtain ⟨KY,hKY⟩:∃ D,keyS nm=D:=⟨_,rfl⟩
    rw [hKY] at hat hma hkey
    have hKind:=kindOf_any nm n
    rcases kD_cases n with hk | hk
    · rw [hk] at hKind hma hpa
      simp only [hk] at hc1 hc2
      have hmo:mostK 1=32:=rfl
      rw [hmo,hn1] at hpa
      simp only [show ((1:Int) == 1)=true from rfl,show ((1:Int) == 2)=false from rfl,if_true,Bool.false_eq_true,if_false,Nat.add_zero] at hc1 hc2
      clear hmo hk hn1 hn2 hc0 hDM hKY
      obtain ⟨W2,hW2⟩:∃ W2,wr.alloc (.cells #[.string nm,.int .i64 n] 104)=W2:=⟨_,rfl⟩
      obtain ⟨BD,hBD⟩:∃ x,wr.heap.size=x:=⟨_,rfl⟩
      have hX2:Blk W2 B #[.int .i64 0,.int .i64 n1,.int .i64 n2] 172:=by rw [← hW2];exact hXr.alloc _
      have hY2:Blk W2 BD #[.string nm,.int .i64 n] 104:=by rw [← hW2,← hBD];exact Blk.new wr _ _
      have hM2:OwnM W2 M i DM:=by rw [← hW2];exact hMr.alloc _
      have hG2:Gr (some M) (some M) w W2:=by rw [← hW2];exact HG.out.alloc _
      have hBlt:B < BD:=by rw [← hBD];exact hXr.lt
      have hMlt:M < BD:=by rw [← hBD];exact hMr.lt
      have hne1:BD ≠ B:=by omega
      have HC:=Lib.hid (hKind W2)
      have HX2:=Lib.hid hX2;clear hX2 hXr
      have HY2:=Lib.hid hY2;clear hY2
      have HM2:=Lib.hid hM2;clear hM2 hMr
      have HG2:=Lib.hid hG2;clear hG2 HG
      have HW2:=Lib.hid hW2;clear hW2
      have HBD:=Lib.hid hBD;clear hBD
      have HKEY:=Lib.hid hkey;clear hkey
      have HAT:=Lib.hid hat;clear hat
      have HMA:=Lib.hid hma;clear hma
      have HC1:=Lib.hid hc1;clear hc1
      have HC2:=Lib.hid hc2;clear hc2
      have HPA:=Lib.hid hpa;clear hpa hPr hKind
      go_upto_region 5 with fail
      rw [HW2.out,HBD.out]
      clear HW2 g0 g1
      have k0:W2.cell? ⟨BD,0,none⟩=some (.string nm):=HY2.out.cell 0
      have k1:W2.cell? ⟨BD,1,none⟩=some (.int .i64 n):=HY2.out.cell 1
      go_upto_region 6 with (first | (go_at_call 35;(with_reducible refine HC.out.mono ?_);rintro e w3 ⟨rfl,hb3⟩) | fail)
      have HX3:=Lib.hid (HX2.out.below hb3 HX2.out.lt)
      have HY3:=Lib.hid (HY2.out.below hb3 HY2.out.lt)
      have HM3:=Lib.hid (HM2.out.kept (row:=none) (grown_below hb3) (by simp))
      have HG3:=Lib.hid (HG2.out.trans (Gr.below hb3))
      clear hb3 HX2 HY2 HM2 HG2 HC k0 k1
      have q1:w3.cell? ⟨B,1,none⟩=some (.int .i64 n1):=HX3.out.cell 1
      have f1:=HX3.out.free 1
      go_upto_region 7 with fail
      obtain ⟨W4,hW4⟩:∃ W,w3.setCell ⟨B,1,none⟩ (.int .i64 (↑n1+1))=W:=⟨_,rfl⟩
      have hX4:Blk W4 B #[.int .i64 0,.int .i64 (↑n1+1),.int .i64 n2] 172:=by rw [← hW4];exact HX3.out.set 1 _
      have ho4:Only B w3 W4:=by rw [← hW4];exact (Only.refl B _).setCell (by rfl) _
      have hY4:Blk W4 BD #[.string nm,.int .i64 n] 104:=HY3.out.only ho4 hne1
      have hM4:OwnM W4 M i DM:=ownsMap_only HM3.out ho4 hMB
      have hG4:Gr (some M) (some M) w W4:=gr_only HG3.out ho4 (by have:=HBE.out;omega)
      have r1:W4.cell? ⟨B,1,none⟩=some (.int .i64 (↑n1+1)):=hX4.cell 1
      have k0:W4.cell? ⟨BD,0,none⟩=some (.string nm):=hY4.cell 0
      have k1:W4.cell? ⟨BD,1,none⟩=some (.int .i64 n):=hY4.cell 1
      obtain ⟨cn,hcn⟩:∃ c:Int,(n1:Int)+1=c:=⟨_,rfl⟩
      rw [hW4,hcn]
      rw [hcn] at hX4 r1
      have HCN:=Lib.hid (show (((n1+1:Nat):Int))=cn by omega);clear hcn
      have HX4:=Lib.hid hX4;clear hX4
      have HM4:=Lib.hid hM4;clear hM4
      have HG4:=Lib.hid hG4;clear hG4
      clear q1 f1 ho4 hY4 hW4 HX3 HY3 HM3 HG3
      by_cases hz:c0=0
      · subst hz
        by_cases hs:1024 < n
        · have ht:decide (1024 < n)=true:=by simpa using hs
          have hpost:POST=(nm,61):=HPA.out.trans (pick_61 hs)
          have HP:=Lib.hid hpost;clear hpost HPA hs
          go_wp2_with (first | (at_lookup;(refine wpList_lookup_at _ rfl _ _ 126 rfl 9 3 .i64 law9 Tryz.underlying126 under_int (zeroI _) M i DM rfl HM4.out _ _ rfl HKEY.out _ HAT.out ?_)) | fail)
          try rw [Exit.noGoto_ret]
          go_ret2
          exact ⟨by rw [HP.out];rfl,HG4.out.1,fun h=>absurd h (by rw [HP.out];simp)⟩
        · have ht:decide (1024 < n)=false:=by simpa using hs
          by_cases hc:(32:Int) < cn
          · have hu:decide ((32:Int) < cn)=true:=by simpa using hc
            have hpost:POST=(nm,62):=(by have h:=HPA.out;rw [show ((n1:Int)+1)=cn by have:=HCN.out;omega] at h;exact h.trans (pick_62 hs hc))
            have HP:=Lib.hid hpost;clear hpost HPA hs hc
            go_upto_region 11 with (first | (at_lookup;(refine wpList_lookup_at _ rfl _ _ 126 rfl 9 3 .i64 law9 Tryz.underlying126 under_int (zeroI _) M i DM rfl HM4.out _ _ rfl HKEY.out _ HAT.out ?_)) | fail)
            go_quiet ((go_at_call 103;exact Calls.quiet_of_same (most_one _)))
            all_goals
             go_wp2_with fail
             try rw [Exit.noGoto_ret]
             go_ret2
             exact ⟨by rw [HP.out];rfl,(gr_drewN HG4.out _).1,fun h=>absurd h (by rw [HP.out];simp)⟩
          · have hu:decide ((32:Int) < cn)=false:=by simpa using hc
            have hpost:declW (ds.take (i+1)) (ds.drop (i+1))=POST:=(by have h:=HPA.out;rw [show ((n1:Int)+1)=cn by have:=HCN.out;omega] at h;exact (h.trans (pick_0 hs hc)).symm)
            have HP:=Lib.hid hpost;clear hpost HPA hs hc
            have hix:i < maxLen:=by omega
            go_upto_region 11 with (first | (at_lookup;(refine wpList_lookup_at _ rfl _ _ 126 rfl 9 3 .i64 law9 Tryz.underlying126 under_int (zeroI _) M i DM rfl HM4.out _ _ rfl HKEY.out _ HAT.out ?_)) | fail)
            go_quiet ((go_at_call 103;exact Calls.quiet_of_same (most_one _)))
            all_goals
             go_wp2_with (first | (at_mapUpdate;(refine wpList_mapUpdate_own _ rfl _ _ _ 126 rfl 9 3 law9 Tryz.underlying126 (plainElem Tryz.prog 3) M i DM rfl (ownM_drewN HM4.out _) hix _ _ _ rfl rfl HKEY.out _ [] (plainElem_int under_int (i64_small 1 (by decide))) ?_);(intro w5 hown5 hgrow5)) | fail)
             have HX5:=Lib.hid (blk_grown (show Blk (W4.drewN nq) B _ _ from HX4.out) hgrow5 (fun e=>hMB (by simpa using e)))
             have HG5:=Lib.hid ((gr_drewN HG4.out nq).trans ⟨hgrow5,.inl rfl⟩)
             have HO5:=Lib.hid hown5
             clear hown5 hgrow5
             go_roundw
             case rel=>exact ⟨i+1,rfl,rfl,by go_num,by omega,HP.out,by rw [HMA.out];exact HO5.out,by rw [HC1.out,HC2.out,HCN.out];exact HX5.out,HG5.out⟩
             case measure=>simp [intOf];omega
      · have ht:(c0 != 0)=true:=by simpa using hz
        have hpost:POST=(nm,60):=HPA.out.trans (pick_60 hz)
        have HP:=Lib.hid hpost;clear hpost HPA hz
        go_wp2_with (first | (at_lookup;(refine wpList_lookup_at _ rfl _ _ 126 rfl 9 3 .i64 law9 Tryz.underlying126 under_int (zeroI _) M i DM rfl HM4.out _ _ rfl HKEY.out _ HAT.out ?_)) | fail)
        try rw [Exit.noGoto_ret]
        go_ret2
        exact ⟨by rw [HP.out];rfl,HG4.out.1,fun h=>absurd h (by rw [HP.out];simp)⟩
    · rw [hk] at hKind hma hpa
      simp only [hk] at hc1 hc2
      have hmo:mostK 2=16:=rfl
      rw [hmo,hn2] at hpa
      simp only [show ((2:Int) == 2)=true from rfl,show ((2:Int) == 1)=false from rfl,if_true,Bool.false_eq_true,if_false,Nat.add_zero] at hc1 hc2
      clear hmo hk hn1 hn2 hc0 hDM hKY
      obtain ⟨W2,hW2⟩:∃ W2,wr.alloc (.cells #[.string nm,.int .i64 n] 104)=W2:=⟨_,rfl⟩
      obtain ⟨BD,hBD⟩:∃ x,wr.heap.size=x:=⟨_,rfl⟩
      have hX2:Blk W2 B #[.int .i64 0,.int .i64 n1,.int .i64 n2] 172:=by rw [← hW2];exact hXr.alloc _
      have hY2:Blk W2 BD #[.string nm,.int .i64 n] 104:=by rw [← hW2,← hBD];exact Blk.new wr _ _
      have hM2:OwnM W2 M i DM:=by rw [← hW2];exact hMr.alloc _
      have hG2:Gr (some M) (some M) w W2:=by rw [← hW2];exact HG.out.alloc _
      have hBlt:B < BD:=by rw [← hBD];exact hXr.lt
      have hMlt:M < BD:=by rw [← hBD];exact hMr.lt
      have hne1:BD ≠ B:=by omega
      have HC:=Lib.hid (hKind W2)
      have HX2:=Lib.hid hX2;clear hX2 hXr
      have HY2:=Lib.hid hY2;clear hY2
      have HM2:=Lib.hid hM2;clear hM2 hMr
      have HG2:=Lib.hid hG2;clear hG2 HG
      have HW2:=Lib.hid hW2;clear hW2
      have HBD:=Lib.hid hBD;clear hBD
      have HKEY:=Lib.hid hkey;clear hkey
      have HAT:=Lib.hid hat;clear hat
      have HMA:=Lib.hid hma;clear hma
      have HC1:=Lib.hid hc1;clear hc1
      have HC2:=Lib.hid hc2;clear hc2
      have HPA:=Lib.hid hpa;clear hpa hPr hKind
      go_upto_region 5 with fail
      rw [HW2.out,HBD.out]
      clear HW2 g0 g1
      have k0:W2.cell? ⟨BD,0,none⟩=some (.string nm):=HY2.out.cell 0
      have k1:W2.cell? ⟨BD,1,none⟩=some (.int .i64 n):=HY2.out.cell 1
      go_upto_region 6 with (first | (go_at_call 35;(with_reducible refine HC.out.mono ?_);rintro e w3 ⟨rfl,hb3⟩) | fail)
      have HX3:=Lib.hid (HX2.out.below hb3 HX2.out.lt)
      have HY3:=Lib.hid (HY2.out.below hb3 HY2.out.lt)
      have HM3:=Lib.hid (HM2.out.kept (row:=none) (grown_below hb3) (by simp))
      have HG3:=Lib.hid (HG2.out.trans (Gr.below hb3))
      clear hb3 HX2 HY2 HM2 HG2 HC k0 k1
      have q2:w3.cell? ⟨B,2,none⟩=some (.int .i64 n2):=HX3.out.cell 2
      have f2:=HX3.out.free 2
      go_upto_region 7 with fail
      obtain ⟨W4,hW4⟩:∃ W,w3.setCell ⟨B,2,none⟩ (.int .i64 (↑n2+1))=W:=⟨_,rfl⟩
      have hX4:Blk W4 B #[.int .i64 0,.int .i64 n1,.int .i64 (↑n2+1)] 172:=by rw [← hW4];exact HX3.out.set 2 _
      have ho4:Only B w3 W4:=by rw [← hW4];exact (Only.refl B _).setCell (by rfl) _
      have hY4:Blk W4 BD #[.string nm,.int .i64 n] 104:=HY3.out.only ho4 hne1
      have hM4:OwnM W4 M i DM:=ownsMap_only HM3.out ho4 hMB
      have hG4:Gr (some M) (some M) w W4:=gr_only HG3.out ho4 (by have:=HBE.out;omega)
      have r2:W4.cell? ⟨B,2,none⟩=some (.int .i64 (↑n2+1)):=hX4.cell 2
      have k0:W4.cell? ⟨BD,0,none⟩=some (.string nm):=hY4.cell 0
      have k1:W4.cell? ⟨BD,1,none⟩=some (.int .i64 n):=hY4.cell 1
      obtain ⟨cn,hcn⟩:∃ c:Int,(n2:Int)+1=c:=⟨_,rfl⟩
      rw [hW4,hcn]
      rw [hcn] at hX4 r2
      have HCN:=Lib.hid (show (((n2+1:Nat):Int))=cn by omega);clear hcn
      have HX4:=Lib.hid hX4;clear hX4
      have HM4:=Lib.hid hM4;clear hM4
      have HG4:=Lib.hid hG4;clear hG4
      clear q2 f2 ho4 hY4 hW4 HX3 HY3 HM3 HG3
      by_cases hz:c0=0
      · subst hz
        by_cases hs:1024 < n
        · have ht:decide (1024 < n)=true:=by simpa using hs
          have hpost:POST=(nm,61):=HPA.out.trans (pick_61 hs)
          have HP:=Lib.hid hpost;clear hpost HPA hs
          go_wp2_with (first | (at_lookup;(refine wpList_lookup_at _ rfl _ _ 126 rfl 9 3 .i64 law9 Tryz.underlying126 under_int (zeroI _) M i DM rfl HM4.out _ _ rfl HKEY.out _ HAT.out ?_)) | fail)
          try rw [Exit.noGoto_ret]
          go_ret2
          exact ⟨by rw [HP.out];rfl,HG4.out.1,fun h=>absurd h (by rw [HP.out];simp)⟩
        · have ht:decide (1024 < n)=false:=by simpa using hs
          by_cases hc:(16:Int) < cn
          · have hu:decide ((16:Int) < cn)=true:=by simpa using hc
            have hpost:POST=(nm,62):=(by have h:=HPA.out;rw [show ((n2:Int)+1)=cn by have:=HCN.out;omega] at h;exact h.trans (pick_62 hs hc))
            have HP:=Lib.hid hpost;clear hpost HPA hs hc
            go_upto_region 11 with (first | (at_lookup;(refine wpList_lookup_at _ rfl _ _ 126 rfl 9 3 .i64 law9 Tryz.underlying126 under_int (zeroI _) M i DM rfl HM4.out _ _ rfl HKEY.out _ HAT.out ?_)) | fail)
            go_quiet ((go_at_call 103;exact Calls.quiet_of_same (most_two _)))
            all_goals
             go_wp2_with fail
             try rw [Exit.noGoto_ret]
             go_ret2
             exact ⟨by rw [HP.out];rfl,(gr_drewN HG4.out _).1,fun h=>absurd h (by rw [HP.out];simp)⟩
          · have hu:decide ((16:Int) < cn)=false:=by simpa using hc
            have hpost:declW (ds.take (i+1)) (ds.drop (i+1))=POST:=(by have h:=HPA.out;rw [show ((n2:Int)+1)=cn by have:=HCN.out;omega] at h;exact (h.trans (pick_0 hs hc)).symm)
            have HP:=Lib.hid hpost;clear hpost HPA hs hc
            have hix:i < maxLen:=by omega
            go_upto_region 11 with (first | (at_lookup;(refine wpList_lookup_at _ rfl _ _ 126 rfl 9 3 .i64 law9 Tryz.underlying126 under_int (zeroI _) M i DM rfl HM4.out _ _ rfl HKEY.out _ HAT.out ?_)) | fail)
            go_quiet ((go_at_call 103;exact Calls.quiet_of_same (most_two _)))
            all_goals
             go_wp2_with (first | (at_mapUpdate;(refine wpList_mapUpdate_own _ rfl _ _ _ 126 rfl 9 3 law9 Tryz.underlying126 (plainElem Tryz.prog 3) M i DM rfl (ownM_drewN HM4.out _) hix _ _ _ rfl rfl HKEY.out _ [] (plainElem_int under_int (i64_small 2 (by decide))) ?_);(intro w5 hown5 hgrow5)) | fail)
             have HX5:=Lib.hid (blk_grown (show Blk (W4.drewN nq) B _ _ from HX4.out) hgrow5 (fun e=>hMB (by simpa using e)))
             have HG5:=Lib.hid ((gr_drewN HG4.out nq).trans ⟨hgrow5,.inl rfl⟩)
             have HO5:=Lib.hid hown5
             clear hown5 hgrow5
             go_roundw
             case rel=>exact ⟨i+1,rfl,rfl,by go_num,by omega,HP.out,by rw [HMA.out];exact HO5.out,by rw [HC1.out,HC2.out,HCN.out];exact HX5.out,HG5.out⟩
             case measure=>simp [intOf];omega
      · have ht:(c0 != 0)=true:=by simpa using hz
        have hpost:POST=(nm,60):=HPA.out.trans (pick_60 hz)
        have HP:=Lib.hid hpost;clear hpost HPA hz
        go_wp2_with (first | (at_lookup;(refine wpList_lookup_at _ rfl _ _ 126 rfl 9 3 .i64 law9 Tryz.underlying126 under_int (zeroI _) M i DM rfl HM4.out _ _ rfl HKEY.out _ HAT.out ?_)) | fail)
        try rw [Exit.noGoto_ret]
        go_ret2
        exact ⟨by rw [HP.out];rfl,HG4.out.1,fun h=>absurd h (by rw [HP.out];simp)⟩
  · obtain rfl:i=ds.length:=by omega
    rw [List.take_length,List.drop_length,declW] at hPr
    rw [List.take_length] at hMr
    subst hPr
    have HMr:=Lib.hid hMr;clear hMr hXr
    go_wp2_with fail
    try rw [Exit.noGoto_ret]
    go_ret2
    exact ⟨rfl,HG.out.1,fun _=>HMr.out⟩
def badU (f:ByteArray→Int):List Us→ByteArray × Int
 | []=>(⟨#[]⟩,0)
 | u :: r=>if f u.1=0 then (u.1,63) else if f u.1=kindB u.2 then badU f r else (u.1,64)
theorem own_cells {w:World} {base k n:Nat} {t:TypeId} {v:Value} {xs:List Value} (h:w.ownsRow base t k v n xs):∃ a c,v=.slice a n c∧n≤c∧(n=0 ∨ ∃ g,a=some ⟨g,0,none⟩∧∀ (j:Nat) u,xs[j]?=some u→w.cell? ⟨g,j,none⟩=some u):=by
 by_cases h0:n=0
 · rcases h.2 with ⟨rfl,_⟩ | ⟨g,cap,cur,rfl,_,_,hn,_⟩
   · exact ⟨none,0,by rw [h0],by omega,.inl h0⟩
   · exact ⟨_,cap,rfl,hn,.inl h0⟩
 · have hc:=fun g hg=>h.cells (g:=g) hg
   rcases h.2 with ⟨_,h1⟩ | ⟨g,cap,cur,rfl,_,_,hn,_⟩
   · exact absurd h1 h0
   · refine ⟨_,cap,rfl,hn,.inr ⟨g,rfl,fun j u hu=>?_⟩⟩
     have:=hc g rfl j u hu
     rwa [add_none,Nat.zero_add] at this
theorem cellsK_at:∀ (l:List Us) (i:Nat) (hi:i < l.length),(cellsK l)[i * 2]?=some (.string l[i].1)∧(cellsK l)[i * 2+1]?=some (.int .i64 (kindB l[i].2))
 | [],i,hi=>by simp at hi
 | x :: r,0,hi=>⟨rfl,rfl⟩
 | x :: r,i+1,hi=>by
   have h:=cellsK_at r i (by simpa using hi)
   rw [show (i+1) * 2=i * 2+1+1 by omega]
   simpa [cellsK] using h
theorem headU_sz {nm:ByteArray} {a b:Bool} (h:nm.size≤maxLen):∀ u ∈ headU nm a b,u.1.size≤maxLen:=by
 intro u hu
 unfold headU at hu
 split at hu
 · rw [List.mem_singleton] at hu
   subst hu
   exact h
 · cases hu
theorem sz_sl {w:World} {ty:Ty} {l:List Nd} {v:Value} (hL:∀ b o,RowIn w ty l b o→∀ u ∈ usesL l,u.1.size≤maxLen) (h:SlOf l.length (fun b o=>RowIn w ty l b o) v):∀ u ∈ usesL l,u.1.size≤maxLen:=by
 obtain ⟨a,c,_,_,_,h0 | ⟨b,o,_,hr⟩⟩:=h
 · obtain rfl:=List.eq_nil_of_length_eq_zero h0
   intro u hu
   rw [usesL] at hu
   cases hu
 · exact hL b o hr
mutual
theorem sz_N (w:World):∀ (x:Nd) (vs:List Value),NdIn w x vs→∀ u ∈ usesN x,u.1.size≤maxLen
 | .mk ty k n nm xs cs ts es,vs,h=>by
   unfold NdIn at h
   obtain ⟨_,_,_,hs,vx,vc,vt,ve,_,hx,hc,ht,he⟩:=h
   have h0:=fun a b=>headU_sz (a:=a) (b:=b) hs
   have h1:=sz_sl (sz_L w .E xs) hx
   have h2:=sz_sl (sz_L w .C cs) hc
   have h3:=sz_sl (sz_L w .S ts) ht
   have h4:=sz_sl (sz_L w .S es) he
   intro u hu
   unfold usesN at hu
   cases ty with
   | E=>exact (List.mem_append.1 hu).elim (h0 _ _ u) (h1 u)
   | C=>exact (List.mem_append.1 hu).elim (h1 u) (h2 u)
   | S=>exact (List.mem_append.1 hu).elim (h0 _ _ u) (fun hu=>(List.mem_append.1 hu).elim (h2 u) (fun hu=>(List.mem_append.1 hu).elim (h1 u) (fun hu=>(List.mem_append.1 hu).elim (h3 u) (h4 u))))
   | D=>cases hu
theorem sz_L (w:World):∀ (ty:Ty) (l:List Nd) (b o:Nat),RowIn w ty l b o→∀ u ∈ usesL l,u.1.size≤maxLen
 | _,[],_,_,_=>by intro u hu;rw [usesL] at hu;cases hu
 | ty,x :: r,b,o,h=>by
   unfold RowIn at h
   obtain ⟨⟨_,vs,_,h2⟩,h3⟩:=h
   intro u hu
   rw [usesL] at hu
   exact (List.mem_append.1 hu).elim (sz_N w x vs h2 u) (sz_L w ty r b (o+ty.size) h3 u)
end
theorem sz_all {w:World} {ty:Ty} {l:List Nd} {v:Value} (h:SlIn w ty l v):∀ u ∈ usesL l,u.1.size≤maxLen:=sz_sl (sz_L w ty l) h
set_option maxRecDepth 100000 in
set_option maxHeartbeats 16000000 in
theorem misused_any (w0:World) (ds ss:List Nd) (vs:Value) (w:World) (M n0:Nat) (hs:SlIn w0 .S ss vs) (hw:Below w0.heap.size w0 w) (hm:OwnM w M n0 (mapD ds)) (hfl:(flatL ss).length≤1099511627776) (hul:(usesL ss).length≤1099511627776) :
    Calls Tryz.prog 54 #[.map (some M),vs] w (fun e w'=>e=.returned (.tuple #[.string (badU (lookL ds) (usesL ss)).1,.int .i64 (badU (lookL ds) (usesL ss)).2])∧Below w.heap.size w w'):=by
 have hszs:=sz_all hs
 have hflat:=flat_sl hs
 have HS:=Lib.hid (wstmts_any w0 w.heap.size hw.size _ ss vs [] [] (.slice none 0 0) w (Nat.le_refl _) hs hw (Nat.le_refl _) (World.ownsRow_nil _ _ _ _) rfl (by simpa using hfl))
 obtain ⟨A,C,rfl,-⟩:=hs
 obtain ⟨POST,hPOST⟩:∃ P,badU (lookL ds) (usesL ss)=P:=⟨_,rfl⟩
 rw [hPOST]
 obtain ⟨FL,hFL⟩:∃ P,flatL ss=P:=⟨_,rfl⟩
 rw [hFL] at hflat hfl
 have HFL:=Lib.hid hFL;clear hFL
 rw [hflat] at hPOST hul hszs
 have HPOST:=Lib.hid hPOST;clear hPOST hflat
 have HSZS:=Lib.hid hszs;clear hszs
 have HUL:=Lib.hid hul;clear hul
 have hfun:=mapD_at ds
 obtain ⟨LK,hLK⟩:∃ f,lookL ds=f:=⟨_,rfl⟩
 rw [hLK] at HPOST hfun
 obtain ⟨DM,hDM⟩:∃ f,mapD ds=f:=⟨_,rfl⟩
 rw [hDM] at hm hfun
 clear hLK hDM
 have HFUN:=Lib.hid hfun;clear hfun
 have HM:=Lib.hid hm;clear hm
 have HHW:=Lib.hid hw;clear hw
 go_enter Tryz.func54,Tryz.ntmps54
 go_wp2_with fail
 go_step3
 go_wp2_with fail
 go_step3
 go_wp2_with fail
 refine HS.out.mono ?_
 rintro e w1 ⟨v1,CS,rfl,hO1,hS1,hG1⟩
 rw [List.nil_append,HFL.out] at hO1 hS1
 have hb1:Below w.heap.size w w1:=hG1.old (Nat.le_refl _) (fun g hg=>by cases hg)
 obtain ⟨a1,c1,rfl,hlc1,hcells⟩:=own_cells hO1
 have HM1:=Lib.hid (HM.out.kept (row:=none) (grown_below hb1) (by simp))
 have HB1:=Lib.hid hb1;clear hb1
 have HS1:=Lib.hid hS1;clear hS1
 have HCELLS:=Lib.hid hcells;clear hcells hO1 hG1 HS HM
 have HHW1:=Lib.hid (HHW.out.trans (HB1.out.mono HHW.out.size))
 go_wp2_with fail
 go_loopw [4,5,13] (fun s4 s5 x wr=>∃ (i:Nat),s4=.string ⟨#[]⟩∧s5=.int .i64 0∧x=.int .i64 i∧i≤FL.length∧badU LK ((FL.drop i).flatMap ownU)=POST∧Below w1.heap.size w1 wr) (fun _ _ x _=>FL.length - (intOf x).toNat)
 case atStart=>exact ⟨0,rfl,rfl,rfl,by omega,by rw [List.drop_zero];exact HPOST.out,Below.refl _ _⟩
 case round =>
  obtain ⟨wo,hwo⟩:∃ x,x=wr:=⟨_,rfl⟩
  subst hwo
  obtain ⟨i,rfl,rfl,rfl,hi,hPr,hBr⟩:=hrel
  have HBR:=Lib.hid hBr;clear hBr
  by_cases hlt:i < FL.length
  · have hbi:(i:Int)+1≤9223372036854775807:=by omega
    have hxl:¬ FL.length=0:=by omega
    obtain ⟨g1,rfl,hcl⟩:=HCELLS.out.resolve_left hxl
    obtain ⟨u0,u1,u2,u3,u4,u5,hty,hnd,m0,m1,m2,m3,m4,m5⟩:=HS1.out.at i hlt
    have kk:=fun j u hu=>keeps_below HBR.out _ _ _ (hcl j u hu)
    have h0:=kk _ _ m0
    have h1:=kk _ _ m1
    have h2:=kk _ _ m2
    have h3:=kk _ _ m3
    have h4:=kk _ _ m4
    have h5:=kk _ _ m5
    have hmemX:FL[i] ∈ FL:=List.getElem_mem hlt
    have hszX:∀ u ∈ ownU FL[i],u.1.size≤maxLen:=fun u hu=>HSZS.out u (List.mem_flatMap.2 ⟨_,hmemX,hu⟩)
    rw [List.drop_eq_getElem_cons hlt,List.flatMap_cons] at hPr
    have hulX:(ownU FL[i]).length≤1099511627776:=by
     have h:=HUL.out
     rw [← List.take_append_drop i FL,List.drop_eq_getElem_cons hlt,List.flatMap_append,List.flatMap_cons,List.length_append,List.length_append] at h
     omega
    obtain ⟨R,hR⟩:∃ R,(FL.drop (i+1)).flatMap ownU=R:=⟨_,rfl⟩
    rw [hR] at hPr
    have HR:=Lib.hid hR;clear hR
    clear m0 m1 m2 m3 m4 m5 kk hmemX
    obtain ⟨X,hX⟩:∃ X,FL[i]=X:=⟨_,rfl⟩
    rw [hX] at hnd hty hszX hulX hPr
    clear hX
    have HUS:=Lib.hid (fun w2 (hb:Below w0.heap.size w0 w2)=>suses_any w0 X [u0,u1,u2,u3,u4,u5] w2 hty hnd hb hulX)
    obtain ⟨UL,hUL⟩:∃ U,ownU X=U:=⟨_,rfl⟩
    rw [hUL] at hszX hulX hPr HUS
    clear hUL
    have HPr:=Lib.hid hPr;clear hPr
    have HSX:=Lib.hid hszX;clear hszX
    obtain ⟨ty,k,n,nm,xs,cs,ts,es⟩:=X
    simp only [Nd.ty] at hty
    subst hty
    unfold NdIn at hnd
    obtain ⟨-,-,-,-,vx,vc,vt,ve,hvs,hxs,hcs,hts,hes⟩:=hnd
    simp only [lay,List.cons.injEq,and_true] at hvs
    obtain ⟨rfl,rfl,rfl,rfl,rfl,rfl⟩:=hvs
    obtain ⟨a11,c11,rfl,-⟩:=hcs
    obtain ⟨a12,c12,rfl,-⟩:=hxs
    obtain ⟨a13,c13,rfl,-⟩:=hts
    obtain ⟨a14,c14,rfl,-⟩:=hes
    obtain ⟨W2,hW2⟩:∃ W2,wo.alloc (.cells #[.int .i64 k,.string nm,.slice a12 xs.length c12,.slice a11 cs.length c11,.slice a13 ts.length c13,.slice a14 es.length c14] 57)=W2:=⟨_,rfl⟩
    obtain ⟨B,hBe⟩:∃ B,wo.heap.size=B:=⟨_,rfl⟩
    have hX2:Blk W2 B #[.int .i64 k,.string nm,.slice a12 xs.length c12,.slice a11 cs.length c11,.slice a13 ts.length c13,.slice a14 es.length c14] 57:=by rw [← hW2,← hBe];exact Blk.new wo _ _
    have hb2:Below w1.heap.size w1 W2:=by rw [← hW2];exact HBR.out.alloc HBR.out.size _
    have HC:=Lib.hid (HUS.out W2 (HHW1.out.trans (hb2.mono HHW1.out.size)))
    have HB2:=Lib.hid hb2;clear hb2
    have HX2:=Lib.hid hX2;clear hX2 HUS
    have HW2:=Lib.hid hW2;clear hW2
    have HBE:=Lib.hid hBe;clear hBe HBR
    go_upto_region 4 with fail
    rw [HW2.out,HBE.out]
    clear HW2 h0 h1 h2 h3 h4 h5
    have h0:W2.cell? ⟨B,0,none⟩=some (.int .i64 k):=HX2.out.cell 0
    have h1:W2.cell? ⟨B,1,none⟩=some (.string nm):=HX2.out.cell 1
    have h2:W2.cell? ⟨B,2,none⟩=some (.slice a12 xs.length c12):=HX2.out.cell 2
    have h3:W2.cell? ⟨B,3,none⟩=some (.slice a11 cs.length c11):=HX2.out.cell 3
    have h4:W2.cell? ⟨B,4,none⟩=some (.slice a13 ts.length c13):=HX2.out.cell 4
    have h5:W2.cell? ⟨B,5,none⟩=some (.slice a14 es.length c14):=HX2.out.cell 5
    go_wp2_with fail
    refine HC.out.mono ?_
    rintro e w3 ⟨v3,rfl,hO3,hb3⟩
    obtain ⟨a3,c3,rfl,hlc3,hcells3⟩:=own_cells hO3
    have HCL3:=Lib.hid hcells3;clear hcells3 hO3
    have HB3:=Lib.hid (HB2.out.trans (hb3.mono HB2.out.size));clear hb3 HC h0 h1 h2 h3 h4 h5 HX2
    have HM3:=Lib.hid (HM1.out.kept (row:=none) (grown_below HB3.out) (by simp))
    go_wp2_with fail
    go_loopw [4,5,20] (fun s4 s5 x wr=>∃ (j:Nat),s4=.string ⟨#[]⟩∧s5=.int .i64 0∧x=.int .i64 j∧j≤UL.length∧badU LK (UL.drop j ++ R)=POST∧Below w3.heap.size w3 wr) (fun _ _ x _=>UL.length - (intOf x).toNat)
    case atStart=>exact ⟨0,rfl,rfl,rfl,by omega,by rw [List.drop_zero];exact HPr.out,Below.refl _ _⟩
    case round =>
     obtain ⟨j,rfl,rfl,rfl,hj,hPj,hBj⟩:=hrel
     clear HPr
     have HBJ:=Lib.hid hBj;clear hBj
     by_cases hlj:j < UL.length
     · have hbj:(j:Int)+1≤9223372036854775807:=by omega
       have hxj:¬ UL.length=0:=by omega
       obtain ⟨g3,rfl,hcl3⟩:=HCL3.out.resolve_left hxj
       obtain ⟨m0,m1⟩:=cellsK_at UL j hlj
       have h0:=keeps_below HBJ.out _ _ _ (hcl3 _ _ m0)
       have h1:=keeps_below HBJ.out _ _ _ (hcl3 _ _ m1)
       have hsu:=HSX.out UL[j] (List.getElem_mem hlj)
       rw [List.drop_eq_getElem_cons hlj,List.cons_append,badU] at hPj
       clear m0 m1 hcl3
       obtain ⟨⟨un,ub⟩,hU⟩:∃ X,UL[j]=X:=⟨_,rfl⟩
       rw [hU] at h0 h1 hsu hPj
       clear hU
       simp only at h0 h1 hsu hPj
       have hat:=HFUN.out un
       have hkey:keyOf Tryz.prog 9 (.string un)=some (keyS un):=WideMaps.keyOf_string_mk (by kernel_rfl) hsu
       obtain ⟨c0,hc0⟩:∃ c,LK un=c:=⟨_,rfl⟩
       obtain ⟨kb,hkb⟩:∃ c,kindB ub=c:=⟨_,rfl⟩
       rw [hc0] at hat hPj
       rw [hkb] at hPj h1
       clear hc0 hkb
       obtain ⟨KY,hKY⟩:∃ D,keyS un=D:=⟨_,rfl⟩
       rw [hKY] at hat hkey
       have HAT:=Lib.hid hat;clear hat hKY hsu
       have HKEY:=Lib.hid hkey;clear hkey
       have HPJ:=Lib.hid hPj;clear hPj
       obtain ⟨W5,hW5⟩:∃ W2,wr.alloc (.cells #[.string un,.int .i64 kb] 178)=W2:=⟨_,rfl⟩
       obtain ⟨B5,hBe5⟩:∃ B,wr.heap.size=B:=⟨_,rfl⟩
       have hX5:Blk W5 B5 #[.string un,.int .i64 kb] 178:=by rw [← hW5,← hBe5];exact Blk.new wr _ _
       have hb5:Below w3.heap.size w3 W5:=by rw [← hW5];exact HBJ.out.alloc HBJ.out.size _
       have HM5:=Lib.hid (HM3.out.kept (row:=none) (grown_below hb5) (by simp))
       have HB5:=Lib.hid hb5;clear hb5 HBJ
       have HX5:=Lib.hid hX5;clear hX5
       have HW5:=Lib.hid hW5;clear hW5
       have HBE5:=Lib.hid hBe5;clear hBe5
       go_upto_region 7 with fail
       rw [HW5.out,HBE5.out]
       clear HW5 h0 h1
       have h0:W5.cell? ⟨B5,0,none⟩=some (.string un):=HX5.out.cell 0
       have h1:W5.cell? ⟨B5,1,none⟩=some (.int .i64 kb):=HX5.out.cell 1
       by_cases hz:c0=0
       · subst hz
         have HP:=Lib.hid (HPJ.out.symm.trans (if_pos rfl));clear HPJ
         go_wp2_with (first | (at_lookup;(refine wpList_lookup_at _ rfl _ _ 126 rfl 9 3 .i64 law9 Tryz.underlying126 under_int (zeroI _) M n0 DM rfl HM5.out _ _ rfl HKEY.out _ HAT.out ?_)) | fail)
         try rw [Exit.noGoto_ret]
         go_ret2
         exact ⟨by rw [HP.out];rfl,HB1.out.trans ((HB3.out.trans (HB5.out.mono HB3.out.size)).mono HB1.out.size)⟩
       · have hz1:(c0 == 0)=false:=by simpa using hz
         by_cases he:c0=kb
         · have he1:(c0 == kb)=true:=by simpa using he
           have HP:=Lib.hid (((if_neg hz).trans (if_pos he)).symm.trans HPJ.out);clear HPJ hz he
           go_wp2_with (first | (at_lookup;(refine wpList_lookup_at _ rfl _ _ 126 rfl 9 3 .i64 law9 Tryz.underlying126 under_int (zeroI _) M n0 DM rfl HM5.out _ _ rfl HKEY.out _ HAT.out ?_)) | fail)
           go_roundw
           case rel=>exact ⟨j+1,rfl,rfl,by go_num,by omega,HP.out,HB5.out⟩
           case measure=>simp [intOf];omega
         · have he1:(c0 == kb)=false:=by simpa using he
           have HP:=Lib.hid (HPJ.out.symm.trans ((if_neg hz).trans (if_neg he)));clear HPJ hz he
           go_wp2_with (first | (at_lookup;(refine wpList_lookup_at _ rfl _ _ 126 rfl 9 3 .i64 law9 Tryz.underlying126 under_int (zeroI _) M n0 DM rfl HM5.out _ _ rfl HKEY.out _ HAT.out ?_)) | fail)
           try rw [Exit.noGoto_ret]
           go_ret2
           exact ⟨by rw [HP.out];rfl,HB1.out.trans ((HB3.out.trans (HB5.out.mono HB3.out.size)).mono HB1.out.size)⟩
     · obtain rfl:j=UL.length:=by omega
       rw [List.drop_length,List.nil_append,← HR.out] at hPj
       have HPJ:=Lib.hid hPj;clear hPj
       go_wp2_with fail
       go_roundw
       case rel=>exact ⟨i+1,rfl,rfl,by go_num,by omega,HPJ.out,HB3.out.trans (HBJ.out.mono HB3.out.size)⟩
       case measure=>simp [intOf];omega
  · obtain rfl:i=FL.length:=by omega
    rw [List.drop_length,List.flatMap_nil,badU] at hPr
    subst hPr
    go_wp2_with fail
    try rw [Exit.noGoto_ret]
    go_ret2
    exact ⟨rfl,HB1.out.trans (HBR.out.mono HB1.out.size)⟩
open Go Go.RowKit
theorem noD_sl {w:World} {ty:Ty} {l:List Nd} {v:Value} (hL:∀ b o,RowIn w ty l b o→∀ y ∈ allL l,y.ty ≠ .D) (h:SlOf l.length (fun b o=>RowIn w ty l b o) v):∀ y ∈ allL l,y.ty ≠ .D:=by
 obtain ⟨a,c,_,_,_,h0 | ⟨b,o,_,hr⟩⟩:=h
 · obtain rfl:=List.eq_nil_of_length_eq_zero h0
   intro y hy
   unfold allL at hy
   cases hy
 · exact hL b o hr
mutual
theorem noD_N (w:World):∀ (x:Nd) (vs:List Value),NdIn w x vs→x.ty ≠ .D→∀ y ∈ allN x,y.ty ≠ .D
 | .mk ty k n nm xs cs ts es,vs,h,hty=>by
   unfold NdIn at h
   obtain ⟨_,_,_,_,vx,vc,vt,ve,_,hx,hc,ht,he⟩:=h
   have h1:=noD_sl (noD_L w .E xs (by decide)) hx
   have h2:=noD_sl (noD_L w .C cs (by decide)) hc
   have h3:=noD_sl (noD_L w .S ts (by decide)) ht
   have h4:=noD_sl (noD_L w .S es (by decide)) he
   intro y hy
   unfold allN at hy
   rcases List.mem_cons.1 hy with rfl | hy
   · exact hty
   · cases ty with
     | E=>exact h1 y hy
     | C=>exact (List.mem_append.1 hy).elim (h1 y) (h2 y)
     | S=>exact (List.mem_append.1 hy).elim (h2 y) (fun hy=>(List.mem_append.1 hy).elim (h1 y) (fun hy=>(List.mem_append.1 hy).elim (h3 y) (h4 y)))
     | D=>exact absurd rfl hty
theorem noD_L (w:World):∀ (ty:Ty) (l:List Nd),ty ≠ .D→∀ b o,RowIn w ty l b o→∀ y ∈ allL l,y.ty ≠ .D
 | _,[],_,_,_,_=>by intro y hy;unfold allL at hy;cases hy
 | ty,x :: r,hty,b,o,h=>by
   unfold RowIn at h
   obtain ⟨⟨h1,vs,_,h2⟩,h3⟩:=h
   intro y hy
   unfold allL at hy
   exact (List.mem_append.1 hy).elim (noD_N w x vs h2 (by rw [h1];exact hty) y) (noD_L w ty r hty b (o+ty.size) h3 y)
end
theorem noD_list {w:World} {l:List Nd} {v:Value} (h:SlIn w .S l v):∀ y ∈ allL l,y.ty ≠ .D:=noD_sl (ty:=.S) (fun b o=>noD_L w .S l (by decide) b o) h
end Go.Proofs.YtmohmggnjldddaaGreatDoor
