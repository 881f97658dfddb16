/-
  The document's graphs: Check: proved is that it tells whether a graph is one.
-/
import Derived.Test.YtmohmggnjldddaaGreatDoorQGrE
import Derived.Test.YtmohmggnjldddaaGreatDoorQReg
import Derived.Test.YtmohmggnjldddaaGreatDoorQCfgR
import Derived.Test.YtmohmggnjldddaaGreatDoorQStA
import Derived.Deep.DeepCutAuto
import Derived.Deep.CutBlock
import Derived.BigRegion
import Derived.Deep.RegionHeld3
import Derived.Test.YtmohmggnjldddaaGreatDoorQAbb
namespace Go.Proofs.YtmohmggnjldddaaGreatDoor
set_option maxHeartbeats 8000000
set_option maxRecDepth 100000
open Go Go.RowKit Go.Maps
theorem all_edge (g:Gf) (av aa ae:Option Addr) (cv ca ce:Nat) (h0:0≤g.nv) (h1:g.nv≤1099511627776) (w:World) (h:EdsAt w g.es (.slice ae g.es.length ce)) (htab:TabF w):Calls Tryz.prog 81 #[.slice ae g.es.length ce,.func (.func 82) #[grS g av cv aa ca ae ce] #[]] w (fun e w'=>e=.returned (.bool (rightG g))∧Below w.heap.size w w'):=by
 have HRT:=zh (fun e w' (hb:Below w.heap.size w w')=>right_any g av aa ae cv ca ce h0 h1 e w' (htab.next hb))
 obtain ⟨a,c,hs,hlc,hcm,hrow⟩:=h
 cases hs
 have HR:=zh hrow
 have hb63:(g.es.length:Int)≤9223372036854775807:=by unfold maxLen at hcm;omega
 obtain ⟨PR,hPR⟩:∃ p,edR g.nv (g.ar.length:Int) g.pts g.ext=p:=⟨_,rfl⟩
 have hrg:rightG g=g.es.all PR:=by rw [← hPR];rfl
 have hPR2:∀ e,edR g.nv (g.ar.length:Int) g.pts g.ext e=PR e:=fun e=>by rw [hPR]
 obtain ⟨l,hl⟩:∃ l,g.es=l:=⟨_,rfl⟩
 obtain ⟨R,hR⟩:∃ R,rightG g=R:=⟨_,rfl⟩
 rw [hR]
 have hR0:R=(g.es.drop 0).all PR:=by rw [List.drop_zero,← hR];exact hrg
 have HP:=zh hPR2
 clear hrow hlc hcm hR hrg hPR hPR2 h0 h1 htab hl l
 go_enter Tryz.func81,Tryz.ntmps81
 go_wp2_with fail
 go_loopw [9] (fun x wr=>∃ i:Nat,x=.int .i64 i∧i≤g.es.length∧R=(g.es.drop i).all PR∧Below w.heap.size w wr) (fun x _=>g.es.length - (intOf x).toNat)
 case atStart=>exact ⟨0,rfl,by omega,hR0,Below.refl _ _⟩
 case round =>
  obtain ⟨i,rfl,hi,hRi,hbr⟩:=hrel
  clear hR0
  have HBR:=zh hbr
  by_cases hlt:i<g.es.length
  · have hbi:(i:Int)+1≤9223372036854775807:=by omega
    obtain ⟨b,o,rfl,hrw⟩:=HR.out.resolve_left (by omega)
    obtain ⟨k0,k1,k2,k3,k4,k5,k6,k7,k8,k9⟩:=eds_at hrw i hlt
    have kk:=keeps_below hbr
    have m0:=kk _ _ _ k0
    have m1:=kk _ _ _ k1
    have m2:=kk _ _ _ k2
    have m3:=kk _ _ _ k3
    have m4:=kk _ _ _ k4
    have m5:=kk _ _ _ k5
    have m6:=kk _ _ _ k6
    have m7:=kk _ _ _ k7
    have m8:=kk _ _ _ k8
    have m9:=kk _ _ _ k9
    rw [all_drop PR g.es i hlt] at hRi
    obtain ⟨e,he⟩:∃ e,g.es[i]=e:=⟨_,rfl⟩
    rw [he] at m0 m1 m2 m3 m4 m5 m6 m7 m8 m9 hRi
    have HS:=zh (fun w' (hb:Below w.heap.size w w')=>HRT.out e w' hb)
    rw [HP.out e] at HS
    obtain ⟨B,hB⟩:∃ B,PR e=B:=⟨_,rfl⟩
    rw [hB] at hRi HS
    have HRI:=zh hRi
    clear hbr hrw k0 k1 k2 k3 k4 k5 k6 k7 k8 k9 kk he hB hRi
    cases B with
    | false =>
      go_wp2_with (first | (go_at_call 82;(with_reducible refine (HS.out _ (HBR.out.alloc HBR.out.size _)).mono ?_);rintro e w2 ⟨rfl,hb2⟩) | fail)
      go_ret
      exact ⟨by rw [HRI.out];rfl,(HBR.out.alloc HBR.out.size _).trans (hb2.mono (HBR.out.alloc HBR.out.size _).size)⟩
    | true =>
      go_wp2_with (first | (go_at_call 82;(with_reducible refine (HS.out _ (HBR.out.alloc HBR.out.size _)).mono ?_);rintro e w2 ⟨rfl,hb2⟩) | fail)
      go_roundw
      case rel=>exact ⟨i+1,by go_num,by omega,by rw [HRI.out];rfl,(HBR.out.alloc HBR.out.size _).trans (hb2.mono (HBR.out.alloc HBR.out.size _).size)⟩
      case measure=>simp [intOf];omega
  · obtain rfl:i=g.es.length:=by omega
    clear hbr
    go_wp2_with fail
    go_ret
    exact ⟨by rw [hRi,List.drop_length];rfl,HBR.out⟩
theorem bel_drewN {B:Nat} {a w:World} (h:Below B a w) (n:Nat):Below B a (w.drewN n):=⟨h.os,h.tape,h.output,h.size,h.block⟩
theorem right_fr {g:Gf} (h:rightG g=true):∀ e ∈ g.es,0≤e.fr∧e.fr<g.pts:=by
 intro e he
 have h2:=List.all_eq_true.1 h e he
 unfold edR endR at h2
 simp only [Bool.and_eq_true] at h2
 exact amg_true h2.2.1.1.1.1.1
theorem formed_any (g:Gf) (av aa ae:Option Addr) (cv ca ce:Nat) (w:World) (hg:GrIn w g (.slice av g.vs.length cv) (.slice aa g.ar.length ca) (.slice ae g.es.length ce)) (htab:TabF w) (h0:0≤g.nv) (h1:g.nv≤1099511627776) (hp1:1≤g.pts) (hp2:g.pts≤4096) (hne:g.es.length≤8192) :
    Calls Tryz.prog 46 #[grS g av cv aa ca ae ce] w (fun e w'=>e=.returned (.bool (frm g))∧Below w.heap.size w w'):=by
 obtain ⟨n,hn⟩:∃ n:Nat,g.pts=n:=⟨g.pts.toNat,by omega⟩
 have hgn:g.n=n:=by unfold Gf.n;omega
 obtain ⟨W1,hW1⟩:∃ W1,w.alloc (.cells (grB g av cv aa ca ae ce) 30)=W1:=⟨_,rfl⟩
 obtain ⟨X,hX⟩:∃ X,w.heap.size=X:=⟨_,rfl⟩
 obtain ⟨W2,hW2⟩:∃ W2,W1.alloc (.cells (grB g av cv aa ca ae ce) 153)=W2:=⟨_,rfl⟩
 obtain ⟨Y,hY⟩:∃ Y,W1.heap.size=Y:=⟨_,rfl⟩
 have hx1:Blk W1 X (grB g av cv aa ca ae ce) 30:=by rw [← hW1,← hX];exact Blk.new w _ _
 have hb1:Below w.heap.size w W1:=by rw [← hW1];exact (Below.refl _ w).alloc (Nat.le_refl _) _
 have hx:Blk W2 X (grB g av cv aa ca ae ce) 30:=by rw [← hW2];exact hx1.alloc _
 have hy:Blk W2 Y (grB g av cv aa ca ae ce) 153:=by rw [← hW2,← hY];exact Blk.new _ _ _
 have hb2:Below w.heap.size w W2:=by rw [← hW2];exact hb1.alloc hb1.size _
 have hg2:=hg.next hb2
 have htab2:=htab.next hb2
 have HDC:=zh (all_decl g.ar _ W2 hg2.ar)
 have HAM:=fun w=>among_any g.ext g.pts w
 have HED:=zh (fun w' (hb:Below W2.heap.size W2 w')=>all_edge g av aa ae cv ca ce h0 h1 w' (hg2.next hb).es (htab2.next hb))
 have HFR:=zh (fun w' (hb:Below W2.heap.size W2 w') hr=>efrom_any g av aa ae cv ca ce n hn (by omega) hne w' (hg2.next hb).es (right_fr hr))
 have HRW:=zh (fun L vs w' (hb:Below W2.heap.size W2 w') hr=>all_rows g av aa ae cv ca ce n L vs w' hr (hg2.next hb).es (by omega) hne)
 have hfk:forkG g=(List.range n).all fun p=>tog g.es (outL g.es p):=by unfold forkG;rw [hgn]
 have hfrm:frm g=(sizedG g&&amg g.ext g.pts&&rightG g&&forkG g):=rfl
 rw [hfrm,hfk]
 have hsz:sizedG g=(decide (g.ar.length≤16)&&g.ar.all szD):=rfl
 have d16:decide ((g.ar.length:Int)≤16)=decide (g.ar.length≤16):=decide_eq_decide.2 (by omega)
 obtain ⟨D16,hD16⟩:∃ b,decide (g.ar.length≤16)=b:=⟨_,rfl⟩
 obtain ⟨AD,hAD⟩:∃ b,g.ar.all szD=b:=⟨_,rfl⟩
 rw [hD16] at d16
 rw [hD16,hAD] at hsz
 rw [hAD] at HDC
 obtain ⟨SZ,hSZ⟩:∃ b,sizedG g=b:=⟨_,rfl⟩
 rw [hSZ] at hsz ⊢
 obtain ⟨AM,hAM⟩:∃ b,amg g.ext g.pts=b:=⟨_,rfl⟩
 rw [hAM] at HAM ⊢
 obtain ⟨RB,hRB⟩:∃ b,rightG g=b:=⟨_,rfl⟩
 rw [hRB] at HED HFR ⊢
 obtain ⟨FK,hFK⟩:∃ b,((List.range n).all fun p=>tog g.es (outL g.es p))=b:=⟨_,rfl⟩
 rw [hFK] at HRW ⊢
 have xc:=fun w' (hW:Below W2.heap.size W2 w')=>(hx.below hW hx.lt)
 have yc:=fun w' (hW:Below W2.heap.size W2 w')=>(hy.below hW hy.lt)
 have x1:∀ i,W1.cell? ⟨X,i,none⟩=(grB g av cv aa ca ae ce)[i]?:=fun i=>hx1.cell i
 have x2:W2.cell? ⟨X,2,none⟩=some (.slice aa g.ar.length ca):=hx.cell 2
 have H2:=zh (za hb2 (za xc yc))
 have HE:=zh (za hW1 (za hX (za hW2 hY)))
 clear hn hgn hW1 hX hW2 hY hx1 hb1 hx hy hb2 hg2 htab2 hg htab h0 h1 hp1 hp2 hne hfk hfrm hD16 hAD hSZ hAM hRB hFK xc yc
 go_enter Tryz.func46,Tryz.ntmps46
 go_upto_region 1 with fail
 rw [HE.out.1,HE.out.2.1]
 go_upto_region 2 with fail
 rw [HE.out.2.2.1,HE.out.2.2.2]
 clear x1
 go_cut [4] (fun s wx=>s=.bool SZ∧Below W2.heap.size W2 wx)
 case first =>
  cases D16
  · go_wp2_with fail
    go_meet
    exact ⟨by rw [hsz];rfl,Below.refl _ _⟩
  · go_wp2_with (first | (go_at_call 78;(with_reducible refine HDC.out.mono ?_);rintro e w3 ⟨rfl,hb3⟩) | fail)
    go_meet
    exact ⟨by rw [hsz];rfl,hb3⟩
 case rest =>
  obtain ⟨rfl,hbc⟩:=hcut
  clear x2 HDC d16 hsz
  have KS:=fun w' (hW:Below wc.heap.size wc w')=>(⟨(H2.out.2.1 _ (bel hbc hW)).cell 0,(H2.out.2.1 _ (bel hbc hW)).cell 1,(H2.out.2.1 _ (bel hbc hW)).cell 2,(H2.out.2.1 _ (bel hbc hW)).cell 3,(H2.out.2.1 _ (bel hbc hW)).cell 4,(H2.out.2.1 _ (bel hbc hW)).cell 5,(H2.out.2.2 _ (bel hbc hW)).cell 0,(H2.out.2.2 _ (bel hbc hW)).cell 1,(H2.out.2.2 _ (bel hbc hW)).cell 2,(H2.out.2.2 _ (bel hbc hW)).cell 3,(H2.out.2.2 _ (bel hbc hW)).cell 4,(H2.out.2.2 _ (bel hbc hW)).cell 5,hW⟩:(fun w'=>w'.cell? ⟨X,0,none⟩=some (.slice av g.vs.length cv)∧w'.cell? ⟨X,1,none⟩=some (.int .i64 g.tmp)∧w'.cell? ⟨X,2,none⟩=some (.slice aa g.ar.length ca)∧w'.cell? ⟨X,3,none⟩=some (.int .i64 g.pts)∧w'.cell? ⟨X,4,none⟩=some (.int .i64 g.ext)∧w'.cell? ⟨X,5,none⟩=some (.slice ae g.es.length ce)∧w'.cell? ⟨Y,0,none⟩=some (.slice av g.vs.length cv)∧w'.cell? ⟨Y,1,none⟩=some (.int .i64 g.tmp)∧w'.cell? ⟨Y,2,none⟩=some (.slice aa g.ar.length ca)∧w'.cell? ⟨Y,3,none⟩=some (.int .i64 g.pts)∧w'.cell? ⟨Y,4,none⟩=some (.int .i64 g.ext)∧w'.cell? ⟨Y,5,none⟩=some (.slice ae g.es.length ce)∧Below wc.heap.size wc w') w')
  obtain ⟨s0,s1,s2,s3,s4,s5,s6,s7,s8,s9,s10,s11,-⟩:=KS wc (Below.refl _ _)
  have HBC:=zh hbc
  clear hbc
  go_upto_region 3 with fail
  have hcase:SZ=false∨(SZ=true∧AM=false)∨(SZ=true∧AM=true∧RB=false)∨(SZ=true∧AM=true∧RB=true):=by cases SZ<;>cases AM<;>cases RB<;>simp
  rcases hcase with rfl | ⟨rfl,rfl⟩ | ⟨rfl,rfl,rfl⟩ | ⟨rfl,rfl,rfl⟩
  · go_quiet (fail)
    go_wp2_with fail
    go_ret
    exact ⟨rfl,bel_drewN (bel H2.out.1 HBC.out) _⟩
  · refine wp_region_any (by kernel_rfl) ?_
    refine wpAny_vals [15,16,17,18,19,20,21,22,23,24,25,26,27,28,29,30,31,32,33,34,35,36,2] [.bool true,.bool true,.pointer (some ⟨X,4,none⟩),.int .i64 g.ext,.pointer (some ⟨X,3,none⟩),.int .i64 g.pts,.bool false,.bool false,.bool false,undef,undef,undef,undef,undef,.bool false,.bool false,undef,undef,undef,undef,undef,.bool false,.bool false] (fun w'=>Below wc.heap.size wc w') rfl (by kernel_rfl) (by decide) (by kernel_rfl) ?hs ?he ?hj
    case hj=>exact (Below.refl _ _).drew
    case hs =>
     intro i o ho fr0 hv hx w' hJ
     have hi:i<23:=(Array.getElem?_eq_some_iff.1 ho).1
     obtain ⟨c0,c1,c2,c3,c4,c5,c6,c7,c8,c9,c10,c11,-⟩:=KS w' hJ
     have HJ:=zh hJ
     clear hJ
     have hcase:i=0∨i=1∨i=2∨i=3∨i=4∨i=5∨i=6∨i=7∨i=8∨i=9∨i=10∨i=11∨i=12∨i=13∨i=14∨i=15∨i=16∨i=17∨i=18∨i=19∨i=20∨i=21∨i=22:=by omega
     clear hi
     rcases hcase with rfl | rfl | rfl | rfl | rfl | rfl | rfl | rfl | rfl | rfl | rfl | rfl | rfl | rfl | rfl | rfl | rfl | rfl | rfl | rfl | rfl | rfl | rfl
     · obtain rfl:=Option.some.inj ho.symm
       clear ho
       have x4:fr0.tmps[(4:Nat)]?=some (.bool true):=hx 4 (by decide)
       clear hv hx
       refine wpOp_step rfl (fun K hK=>?_)
       go_simp
       exact hK _ _ ⟨rfl,HJ.out⟩
     · obtain rfl:=Option.some.inj ho.symm
       clear ho
       have d0:fr0.tmps[(15:Nat)]?=some (.bool true):=hv ⟨0,.data⟩ (by simp) rfl
       clear hv hx
       refine wpOp_step rfl (fun K hK=>?_)
       go_simp
       exact hK _ _ ⟨rfl,HJ.out⟩
     · obtain rfl:=Option.some.inj ho.symm
       clear ho
       have d1:fr0.tmps[(16:Nat)]?=some (.bool true):=hv ⟨1,.guard⟩ (by simp) rfl
       have x1:fr0.tmps[(1:Nat)]?=some (.pointer (some ⟨X,0,none⟩)):=hx 1 (by decide)
       clear hv hx
       refine wpOp_step rfl (fun K hK=>?_)
       go_simp
       exact hK _ _ ⟨rfl,HJ.out⟩
     · obtain rfl:=Option.some.inj ho.symm
       clear ho
       have d2:fr0.tmps[(17:Nat)]?=some (.pointer (some ⟨X,4,none⟩)):=hv ⟨2,.data⟩ (by simp) rfl
       have d1:fr0.tmps[(16:Nat)]?=some (.bool true):=hv ⟨1,.guard⟩ (by simp) rfl
       clear hv hx
       refine wpOp_step rfl (fun K hK=>?_)
       go_simp
       exact hK _ _ ⟨rfl,HJ.out⟩
     · obtain rfl:=Option.some.inj ho.symm
       clear ho
       have d1:fr0.tmps[(16:Nat)]?=some (.bool true):=hv ⟨1,.guard⟩ (by simp) rfl
       have x1:fr0.tmps[(1:Nat)]?=some (.pointer (some ⟨X,0,none⟩)):=hx 1 (by decide)
       clear hv hx
       refine wpOp_step rfl (fun K hK=>?_)
       go_simp
       exact hK _ _ ⟨rfl,HJ.out⟩
     · obtain rfl:=Option.some.inj ho.symm
       clear ho
       have d4:fr0.tmps[(19:Nat)]?=some (.pointer (some ⟨X,3,none⟩)):=hv ⟨4,.data⟩ (by simp) rfl
       have d1:fr0.tmps[(16:Nat)]?=some (.bool true):=hv ⟨1,.guard⟩ (by simp) rfl
       clear hv hx
       refine wpOp_step rfl (fun K hK=>?_)
       go_simp
       exact hK _ _ ⟨rfl,HJ.out⟩
     · obtain rfl:=Option.some.inj ho.symm
       clear ho
       have d3:fr0.tmps[(18:Nat)]?=some (.int .i64 g.ext):=hv ⟨3,.data⟩ (by simp) rfl
       have d5:fr0.tmps[(20:Nat)]?=some (.int .i64 g.pts):=hv ⟨5,.data⟩ (by simp) rfl
       have d1:fr0.tmps[(16:Nat)]?=some (.bool true):=hv ⟨1,.guard⟩ (by simp) rfl
       clear hv hx
       refine wpOp_step rfl (fun K hK=>?_)
       go_simp
       refine (HAM _).mono ?_
       rintro r w3 ⟨rfl,rfl⟩
       exact hK _ _ ⟨rfl,HJ.out⟩
     · obtain rfl:=Option.some.inj ho.symm
       clear ho
       have d1:fr0.tmps[(16:Nat)]?=some (.bool true):=hv ⟨1,.data⟩ (by simp) rfl
       have d6:fr0.tmps[(21:Nat)]?=some (.bool false):=hv ⟨6,.data⟩ (by simp) rfl
       clear hv hx
       refine wpOp_step rfl (fun K hK=>?_)
       go_simp
       exact hK _ _ ⟨rfl,HJ.out⟩
     · obtain rfl:=Option.some.inj ho.symm
       clear ho
       have d7:fr0.tmps[(22:Nat)]?=some (.bool false):=hv ⟨7,.data⟩ (by simp) rfl
       clear hv hx
       refine wpOp_step rfl (fun K hK=>?_)
       go_simp
       exact hK _ _ ⟨rfl,HJ.out⟩
     · obtain rfl:=Option.some.inj ho.symm
       clear ho
       have d8:fr0.tmps[(23:Nat)]?=some (.bool false):=hv ⟨8,.guard⟩ (by simp) rfl
       have x1:fr0.tmps[(1:Nat)]?=some (.pointer (some ⟨X,0,none⟩)):=hx 1 (by decide)
       clear hv hx
       refine wpOp_step rfl (fun K hK=>?_)
       go_simp
       exact hK _ _ ⟨rfl,HJ.out⟩
     · obtain rfl:=Option.some.inj ho.symm
       clear ho
       have d9:fr0.tmps[(24:Nat)]?=some (undef):=hv ⟨9,.data⟩ (by simp) rfl
       have d8:fr0.tmps[(23:Nat)]?=some (.bool false):=hv ⟨8,.guard⟩ (by simp) rfl
       clear hv hx
       refine wpOp_step rfl (fun K hK=>?_)
       go_simp
       exact hK _ _ ⟨rfl,HJ.out⟩
     · obtain rfl:=Option.some.inj ho.symm
       clear ho
       have d8:fr0.tmps[(23:Nat)]?=some (.bool false):=hv ⟨8,.guard⟩ (by simp) rfl
       have x3:fr0.tmps[(3:Nat)]?=some (.pointer (some ⟨Y,0,none⟩)):=hx 3 (by decide)
       clear hv hx
       refine wpOp_step rfl (fun K hK=>?_)
       go_simp
       exact hK _ _ ⟨rfl,HJ.out⟩
     · obtain rfl:=Option.some.inj ho.symm
       clear ho
       have d11:fr0.tmps[(26:Nat)]?=some (undef):=hv ⟨11,.data⟩ (by simp) rfl
       have d8:fr0.tmps[(23:Nat)]?=some (.bool false):=hv ⟨8,.guard⟩ (by simp) rfl
       clear hv hx
       refine wpOp_step rfl (fun K hK=>?_)
       go_simp
       exact hK _ _ ⟨rfl,HJ.out⟩
     · obtain rfl:=Option.some.inj ho.symm
       clear ho
       have d10:fr0.tmps[(25:Nat)]?=some (undef):=hv ⟨10,.data⟩ (by simp) rfl
       have d12:fr0.tmps[(27:Nat)]?=some (undef):=hv ⟨12,.data⟩ (by simp) rfl
       have d8:fr0.tmps[(23:Nat)]?=some (.bool false):=hv ⟨8,.guard⟩ (by simp) rfl
       clear hv hx
       refine wpOp_step rfl (fun K hK=>?_)
       go_simp
       exact hK _ _ ⟨rfl,HJ.out⟩
     · obtain rfl:=Option.some.inj ho.symm
       clear ho
       have d8:fr0.tmps[(23:Nat)]?=some (.bool false):=hv ⟨8,.data⟩ (by simp) rfl
       have d13:fr0.tmps[(28:Nat)]?=some (undef):=hv ⟨13,.data⟩ (by simp) rfl
       clear hv hx
       refine wpOp_step rfl (fun K hK=>?_)
       go_simp
       exact hK _ _ ⟨rfl,HJ.out⟩
     · obtain rfl:=Option.some.inj ho.symm
       clear ho
       have d14:fr0.tmps[(29:Nat)]?=some (.bool false):=hv ⟨14,.data⟩ (by simp) rfl
       clear hv hx
       refine wpOp_step rfl (fun K hK=>?_)
       go_simp
       exact hK _ _ ⟨rfl,HJ.out⟩
     · obtain rfl:=Option.some.inj ho.symm
       clear ho
       have d15:fr0.tmps[(30:Nat)]?=some (.bool false):=hv ⟨15,.guard⟩ (by simp) rfl
       have x1:fr0.tmps[(1:Nat)]?=some (.pointer (some ⟨X,0,none⟩)):=hx 1 (by decide)
       clear hv hx
       refine wpOp_step rfl (fun K hK=>?_)
       go_simp
       exact hK _ _ ⟨rfl,HJ.out⟩
     · obtain rfl:=Option.some.inj ho.symm
       clear ho
       have d16:fr0.tmps[(31:Nat)]?=some (undef):=hv ⟨16,.data⟩ (by simp) rfl
       have d15:fr0.tmps[(30:Nat)]?=some (.bool false):=hv ⟨15,.guard⟩ (by simp) rfl
       clear hv hx
       refine wpOp_step rfl (fun K hK=>?_)
       go_simp
       exact hK _ _ ⟨rfl,HJ.out⟩
     · obtain rfl:=Option.some.inj ho.symm
       clear ho
       have d15:fr0.tmps[(30:Nat)]?=some (.bool false):=hv ⟨15,.guard⟩ (by simp) rfl
       have x3:fr0.tmps[(3:Nat)]?=some (.pointer (some ⟨Y,0,none⟩)):=hx 3 (by decide)
       clear hv hx
       refine wpOp_step rfl (fun K hK=>?_)
       go_simp
       exact hK _ _ ⟨rfl,HJ.out⟩
     · obtain rfl:=Option.some.inj ho.symm
       clear ho
       have d18:fr0.tmps[(33:Nat)]?=some (undef):=hv ⟨18,.data⟩ (by simp) rfl
       have d15:fr0.tmps[(30:Nat)]?=some (.bool false):=hv ⟨15,.guard⟩ (by simp) rfl
       clear hv hx
       refine wpOp_step rfl (fun K hK=>?_)
       go_simp
       exact hK _ _ ⟨rfl,HJ.out⟩
     · obtain rfl:=Option.some.inj ho.symm
       clear ho
       have d17:fr0.tmps[(32:Nat)]?=some (undef):=hv ⟨17,.data⟩ (by simp) rfl
       have d19:fr0.tmps[(34:Nat)]?=some (undef):=hv ⟨19,.data⟩ (by simp) rfl
       have d15:fr0.tmps[(30:Nat)]?=some (.bool false):=hv ⟨15,.guard⟩ (by simp) rfl
       clear hv hx
       refine wpOp_step rfl (fun K hK=>?_)
       go_simp
       exact hK _ _ ⟨rfl,HJ.out⟩
     · obtain rfl:=Option.some.inj ho.symm
       clear ho
       have d15:fr0.tmps[(30:Nat)]?=some (.bool false):=hv ⟨15,.data⟩ (by simp) rfl
       have d20:fr0.tmps[(35:Nat)]?=some (undef):=hv ⟨20,.data⟩ (by simp) rfl
       clear hv hx
       refine wpOp_step rfl (fun K hK=>?_)
       go_simp
       exact hK _ _ ⟨rfl,HJ.out⟩
     · obtain rfl:=Option.some.inj ho.symm
       clear ho
       have d21:fr0.tmps[(36:Nat)]?=some (.bool false):=hv ⟨21,.data⟩ (by simp) rfl
       clear hv hx
       refine wpOp_step rfl (fun K hK=>?_)
       go_simp
       exact hK _ _ ⟨rfl,HJ.out⟩
    case he =>
     intro w' hJ
     simp only [putF,valsAt,Nat.reduceAdd,Nat.zero_add,List.getD_cons_zero,List.getD_cons_succ,Act.put,List.setIfInBounds_toArray,List.set_cons_succ,List.set_cons_zero]
     go_wp2_with fail
     go_ret
     exact ⟨rfl,H2.out.1.trans ((bel HBC.out hJ).mono H2.out.1.size)⟩
  · refine wp_region_any (by kernel_rfl) ?_
    refine wpAny_vals [15,16,17,18,19,20,21,22,23,24,25,26,27,28,29,30,31,32,33,34,35,36,2] [.bool true,.bool true,.pointer (some ⟨X,4,none⟩),.int .i64 g.ext,.pointer (some ⟨X,3,none⟩),.int .i64 g.pts,.bool true,.bool true,.bool true,.pointer (some ⟨X,5,none⟩),.slice ae g.es.length ce,.agg #[.slice av g.vs.length cv,.int .i64 g.tmp,.slice aa g.ar.length ca,.int .i64 g.pts,.int .i64 g.ext,.slice ae g.es.length ce],.func (.func 82) #[.agg #[.slice av g.vs.length cv,.int .i64 g.tmp,.slice aa g.ar.length ca,.int .i64 g.pts,.int .i64 g.ext,.slice ae g.es.length ce]] #[],.bool false,.bool false,.bool false,undef,undef,undef,undef,undef,.bool false,.bool false] (fun w'=>Below wc.heap.size wc w') rfl (by kernel_rfl) (by decide) (by kernel_rfl) ?hs ?he ?hj
    case hj=>exact (Below.refl _ _).drew
    case hs =>
     intro i o ho fr0 hv hx w' hJ
     have hi:i<23:=(Array.getElem?_eq_some_iff.1 ho).1
     obtain ⟨c0,c1,c2,c3,c4,c5,c6,c7,c8,c9,c10,c11,-⟩:=KS w' hJ
     have HJ:=zh hJ
     clear hJ
     have hcase:i=0∨i=1∨i=2∨i=3∨i=4∨i=5∨i=6∨i=7∨i=8∨i=9∨i=10∨i=11∨i=12∨i=13∨i=14∨i=15∨i=16∨i=17∨i=18∨i=19∨i=20∨i=21∨i=22:=by omega
     clear hi
     rcases hcase with rfl | rfl | rfl | rfl | rfl | rfl | rfl | rfl | rfl | rfl | rfl | rfl | rfl | rfl | rfl | rfl | rfl | rfl | rfl | rfl | rfl | rfl | rfl
     · obtain rfl:=Option.some.inj ho.symm
       clear ho
       have x4:fr0.tmps[(4:Nat)]?=some (.bool true):=hx 4 (by decide)
       clear hv hx
       refine wpOp_step rfl (fun K hK=>?_)
       go_simp
       exact hK _ _ ⟨rfl,HJ.out⟩
     · obtain rfl:=Option.some.inj ho.symm
       clear ho
       have d0:fr0.tmps[(15:Nat)]?=some (.bool true):=hv ⟨0,.data⟩ (by simp) rfl
       clear hv hx
       refine wpOp_step rfl (fun K hK=>?_)
       go_simp
       exact hK _ _ ⟨rfl,HJ.out⟩
     · obtain rfl:=Option.some.inj ho.symm
       clear ho
       have d1:fr0.tmps[(16:Nat)]?=some (.bool true):=hv ⟨1,.guard⟩ (by simp) rfl
       have x1:fr0.tmps[(1:Nat)]?=some (.pointer (some ⟨X,0,none⟩)):=hx 1 (by decide)
       clear hv hx
       refine wpOp_step rfl (fun K hK=>?_)
       go_simp
       exact hK _ _ ⟨rfl,HJ.out⟩
     · obtain rfl:=Option.some.inj ho.symm
       clear ho
       have d2:fr0.tmps[(17:Nat)]?=some (.pointer (some ⟨X,4,none⟩)):=hv ⟨2,.data⟩ (by simp) rfl
       have d1:fr0.tmps[(16:Nat)]?=some (.bool true):=hv ⟨1,.guard⟩ (by simp) rfl
       clear hv hx
       refine wpOp_step rfl (fun K hK=>?_)
       go_simp
       exact hK _ _ ⟨rfl,HJ.out⟩
     · obtain rfl:=Option.some.inj ho.symm
       clear ho
       have d1:fr0.tmps[(16:Nat)]?=some (.bool true):=hv ⟨1,.guard⟩ (by simp) rfl
       have x1:fr0.tmps[(1:Nat)]?=some (.pointer (some ⟨X,0,none⟩)):=hx 1 (by decide)
       clear hv hx
       refine wpOp_step rfl (fun K hK=>?_)
       go_simp
       exact hK _ _ ⟨rfl,HJ.out⟩
     · obtain rfl:=Option.some.inj ho.symm
       clear ho
       have d4:fr0.tmps[(19:Nat)]?=some (.pointer (some ⟨X,3,none⟩)):=hv ⟨4,.data⟩ (by simp) rfl
       have d1:fr0.tmps[(16:Nat)]?=some (.bool true):=hv ⟨1,.guard⟩ (by simp) rfl
       clear hv hx
       refine wpOp_step rfl (fun K hK=>?_)
       go_simp
       exact hK _ _ ⟨rfl,HJ.out⟩
     · obtain rfl:=Option.some.inj ho.symm
       clear ho
       have d3:fr0.tmps[(18:Nat)]?=some (.int .i64 g.ext):=hv ⟨3,.data⟩ (by simp) rfl
       have d5:fr0.tmps[(20:Nat)]?=some (.int .i64 g.pts):=hv ⟨5,.data⟩ (by simp) rfl
       have d1:fr0.tmps[(16:Nat)]?=some (.bool true):=hv ⟨1,.guard⟩ (by simp) rfl
       clear hv hx
       refine wpOp_step rfl (fun K hK=>?_)
       go_simp
       refine (HAM _).mono ?_
       rintro r w3 ⟨rfl,rfl⟩
       exact hK _ _ ⟨rfl,HJ.out⟩
     · obtain rfl:=Option.some.inj ho.symm
       clear ho
       have d1:fr0.tmps[(16:Nat)]?=some (.bool true):=hv ⟨1,.data⟩ (by simp) rfl
       have d6:fr0.tmps[(21:Nat)]?=some (.bool true):=hv ⟨6,.data⟩ (by simp) rfl
       clear hv hx
       refine wpOp_step rfl (fun K hK=>?_)
       go_simp
       exact hK _ _ ⟨rfl,HJ.out⟩
     · obtain rfl:=Option.some.inj ho.symm
       clear ho
       have d7:fr0.tmps[(22:Nat)]?=some (.bool true):=hv ⟨7,.data⟩ (by simp) rfl
       clear hv hx
       refine wpOp_step rfl (fun K hK=>?_)
       go_simp
       exact hK _ _ ⟨rfl,HJ.out⟩
     · obtain rfl:=Option.some.inj ho.symm
       clear ho
       have d8:fr0.tmps[(23:Nat)]?=some (.bool true):=hv ⟨8,.guard⟩ (by simp) rfl
       have x1:fr0.tmps[(1:Nat)]?=some (.pointer (some ⟨X,0,none⟩)):=hx 1 (by decide)
       clear hv hx
       refine wpOp_step rfl (fun K hK=>?_)
       go_simp
       exact hK _ _ ⟨rfl,HJ.out⟩
     · obtain rfl:=Option.some.inj ho.symm
       clear ho
       have d9:fr0.tmps[(24:Nat)]?=some (.pointer (some ⟨X,5,none⟩)):=hv ⟨9,.data⟩ (by simp) rfl
       have d8:fr0.tmps[(23:Nat)]?=some (.bool true):=hv ⟨8,.guard⟩ (by simp) rfl
       clear hv hx
       refine wpOp_step rfl (fun K hK=>?_)
       go_simp
       exact hK _ _ ⟨rfl,HJ.out⟩
     · obtain rfl:=Option.some.inj ho.symm
       clear ho
       have d8:fr0.tmps[(23:Nat)]?=some (.bool true):=hv ⟨8,.guard⟩ (by simp) rfl
       have x3:fr0.tmps[(3:Nat)]?=some (.pointer (some ⟨Y,0,none⟩)):=hx 3 (by decide)
       clear hv hx
       refine wpOp_step rfl (fun K hK=>?_)
       go_simp
       exact hK _ _ ⟨rfl,HJ.out⟩
     · obtain rfl:=Option.some.inj ho.symm
       clear ho
       have d11:fr0.tmps[(26:Nat)]?=some (.agg #[.slice av g.vs.length cv,.int .i64 g.tmp,.slice aa g.ar.length ca,.int .i64 g.pts,.int .i64 g.ext,.slice ae g.es.length ce]):=hv ⟨11,.data⟩ (by simp) rfl
       have d8:fr0.tmps[(23:Nat)]?=some (.bool true):=hv ⟨8,.guard⟩ (by simp) rfl
       clear hv hx
       refine wpOp_step rfl (fun K hK=>?_)
       go_simp
       exact hK _ _ ⟨rfl,HJ.out⟩
     · obtain rfl:=Option.some.inj ho.symm
       clear ho
       have d10:fr0.tmps[(25:Nat)]?=some (.slice ae g.es.length ce):=hv ⟨10,.data⟩ (by simp) rfl
       have d12:fr0.tmps[(27:Nat)]?=some (.func (.func 82) #[.agg #[.slice av g.vs.length cv,.int .i64 g.tmp,.slice aa g.ar.length ca,.int .i64 g.pts,.int .i64 g.ext,.slice ae g.es.length ce]] #[]):=hv ⟨12,.data⟩ (by simp) rfl
       have d8:fr0.tmps[(23:Nat)]?=some (.bool true):=hv ⟨8,.guard⟩ (by simp) rfl
       clear hv hx
       refine wpOp_step rfl (fun K hK=>?_)
       go_simp
       refine (HED.out _ (bel HBC.out HJ.out)).mono ?_
       rintro r w3 ⟨rfl,hb3⟩
       exact hK _ _ ⟨rfl,HJ.out.trans (hb3.mono HJ.out.size)⟩
     · obtain rfl:=Option.some.inj ho.symm
       clear ho
       have d8:fr0.tmps[(23:Nat)]?=some (.bool true):=hv ⟨8,.data⟩ (by simp) rfl
       have d13:fr0.tmps[(28:Nat)]?=some (.bool false):=hv ⟨13,.data⟩ (by simp) rfl
       clear hv hx
       refine wpOp_step rfl (fun K hK=>?_)
       go_simp
       exact hK _ _ ⟨rfl,HJ.out⟩
     · obtain rfl:=Option.some.inj ho.symm
       clear ho
       have d14:fr0.tmps[(29:Nat)]?=some (.bool false):=hv ⟨14,.data⟩ (by simp) rfl
       clear hv hx
       refine wpOp_step rfl (fun K hK=>?_)
       go_simp
       exact hK _ _ ⟨rfl,HJ.out⟩
     · obtain rfl:=Option.some.inj ho.symm
       clear ho
       have d15:fr0.tmps[(30:Nat)]?=some (.bool false):=hv ⟨15,.guard⟩ (by simp) rfl
       have x1:fr0.tmps[(1:Nat)]?=some (.pointer (some ⟨X,0,none⟩)):=hx 1 (by decide)
       clear hv hx
       refine wpOp_step rfl (fun K hK=>?_)
       go_simp
       exact hK _ _ ⟨rfl,HJ.out⟩
     · obtain rfl:=Option.some.inj ho.symm
       clear ho
       have d16:fr0.tmps[(31:Nat)]?=some (undef):=hv ⟨16,.data⟩ (by simp) rfl
       have d15:fr0.tmps[(30:Nat)]?=some (.bool false):=hv ⟨15,.guard⟩ (by simp) rfl
       clear hv hx
       refine wpOp_step rfl (fun K hK=>?_)
       go_simp
       exact hK _ _ ⟨rfl,HJ.out⟩
     · obtain rfl:=Option.some.inj ho.symm
       clear ho
       have d15:fr0.tmps[(30:Nat)]?=some (.bool false):=hv ⟨15,.guard⟩ (by simp) rfl
       have x3:fr0.tmps[(3:Nat)]?=some (.pointer (some ⟨Y,0,none⟩)):=hx 3 (by decide)
       clear hv hx
       refine wpOp_step rfl (fun K hK=>?_)
       go_simp
       exact hK _ _ ⟨rfl,HJ.out⟩
     · obtain rfl:=Option.some.inj ho.symm
       clear ho
       have d18:fr0.tmps[(33:Nat)]?=some (undef):=hv ⟨18,.data⟩ (by simp) rfl
       have d15:fr0.tmps[(30:Nat)]?=some (.bool false):=hv ⟨15,.guard⟩ (by simp) rfl
       clear hv hx
       refine wpOp_step rfl (fun K hK=>?_)
       go_simp
       exact hK _ _ ⟨rfl,HJ.out⟩
     · obtain rfl:=Option.some.inj ho.symm
       clear ho
       have d17:fr0.tmps[(32:Nat)]?=some (undef):=hv ⟨17,.data⟩ (by simp) rfl
       have d19:fr0.tmps[(34:Nat)]?=some (undef):=hv ⟨19,.data⟩ (by simp) rfl
       have d15:fr0.tmps[(30:Nat)]?=some (.bool false):=hv ⟨15,.guard⟩ (by simp) rfl
       clear hv hx
       refine wpOp_step rfl (fun K hK=>?_)
       go_simp
       exact hK _ _ ⟨rfl,HJ.out⟩
     · obtain rfl:=Option.some.inj ho.symm
       clear ho
       have d15:fr0.tmps[(30:Nat)]?=some (.bool false):=hv ⟨15,.data⟩ (by simp) rfl
       have d20:fr0.tmps[(35:Nat)]?=some (undef):=hv ⟨20,.data⟩ (by simp) rfl
       clear hv hx
       refine wpOp_step rfl (fun K hK=>?_)
       go_simp
       exact hK _ _ ⟨rfl,HJ.out⟩
     · obtain rfl:=Option.some.inj ho.symm
       clear ho
       have d21:fr0.tmps[(36:Nat)]?=some (.bool false):=hv ⟨21,.data⟩ (by simp) rfl
       clear hv hx
       refine wpOp_step rfl (fun K hK=>?_)
       go_simp
       exact hK _ _ ⟨rfl,HJ.out⟩
    case he =>
     intro w' hJ
     simp only [putF,valsAt,Nat.reduceAdd,Nat.zero_add,List.getD_cons_zero,List.getD_cons_succ,Act.put,List.setIfInBounds_toArray,List.set_cons_succ,List.set_cons_zero]
     go_wp2_with fail
     go_ret
     exact ⟨rfl,H2.out.1.trans ((bel HBC.out hJ).mono H2.out.1.size)⟩
  · have HFR2:=zh (fun w' (hb:Below W2.heap.size W2 w')=>HFR.out w' hb rfl)
    go_region_held3 (fun w'=>w'.cell? ⟨X,0,none⟩=some (.slice av g.vs.length cv)∧w'.cell? ⟨X,1,none⟩=some (.int .i64 g.tmp)∧w'.cell? ⟨X,2,none⟩=some (.slice aa g.ar.length ca)∧w'.cell? ⟨X,3,none⟩=some (.int .i64 g.pts)∧w'.cell? ⟨X,4,none⟩=some (.int .i64 g.ext)∧w'.cell? ⟨X,5,none⟩=some (.slice ae g.es.length ce)∧w'.cell? ⟨Y,0,none⟩=some (.slice av g.vs.length cv)∧w'.cell? ⟨Y,1,none⟩=some (.int .i64 g.tmp)∧w'.cell? ⟨Y,2,none⟩=some (.slice aa g.ar.length ca)∧w'.cell? ⟨Y,3,none⟩=some (.int .i64 g.pts)∧w'.cell? ⟨Y,4,none⟩=some (.int .i64 g.ext)∧w'.cell? ⟨Y,5,none⟩=some (.slice ae g.es.length ce)∧Below wc.heap.size wc w')
        ((with_reducible refine KS _ ?_;repeat (with_reducible (first | exact Below.refl _ _ | refine below_drew ?_ | refine below_next ?_ hb5 | refine below_next ?_ hb4 | refine below_next ?_ hb3 | fail))))
        (first | (go_at_call 80;(with_reducible refine (HAM _).mono ?_);rintro e w2 ⟨rfl,rfl⟩) | (go_at_call 81;(with_reducible refine (HED.out _ (bel HBC.out (by repeat (with_reducible (first | exact Below.refl _ _ | refine below_drew ?_ | fail))))).mono ?_);rintro e w3 ⟨rfl,hb3⟩) | (go_at_call 84;(with_reducible refine (HFR2.out _ (bel HBC.out (by repeat (with_reducible (first | exact Below.refl _ _ | refine below_drew ?_ | refine below_next ?_ hb3 | fail))))).mono ?_);rintro e w4 ⟨L,vs,rfl,-,hrw,hb4⟩) | (go_at_call 83;(with_reducible refine (HRW.out L vs _ (bel HBC.out (by repeat (with_reducible (first | exact Below.refl _ _ | refine below_drew ?_ | refine below_next ?_ hb4 | refine below_next ?_ hb3 | fail)))) hrw).mono ?_);rintro e w5 ⟨rfl,hb5⟩))
    all_goals (go_wp2_with fail;go_ret;exact ⟨rfl,H2.out.1.trans ((bel HBC.out (by repeat (with_reducible (first | exact Below.refl _ _ | refine below_drew ?_ | refine below_next ?_ hb5 | refine below_next ?_ hb4 | refine below_next ?_ hb3 | fail)))).mono H2.out.1.size)⟩)
def chkG (g:Gf):Int:=if outF (g.vs.length:Int) g.tmp g.pts (g.es.length:Int)≠0 then outF (g.vs.length:Int) g.tmp g.pts (g.es.length:Int) else if frm g then 0 else 92
theorem out_zero {nv tmp pts ne:Int} (h:outF nv tmp pts ne=0):0≤tmp∧tmp≤64 - nv∧1≤pts∧pts≤4096∧ne≤8192:=by
 unfold outF at h
 split at h
 · omega
 · split at h
   · omega
   · omega
theorem chk_zero {g:Gf} (h:chkG g=0):outF (g.vs.length:Int) g.tmp g.pts (g.es.length:Int)=0∧frm g=true:=by
 unfold chkG at h
 split at h
 · rename_i h1;exact absurd h h1
 · rename_i h1
   split at h
   · rename_i h2;exact ⟨Decidable.not_not.1 h1,h2⟩
   · omega
theorem check_any (g:Gf) (av aa ae:Option Addr) (cv ca ce:Nat) (w:World) (hg:GrIn w g (.slice av g.vs.length cv) (.slice aa g.ar.length ca) (.slice ae g.es.length ce)) (hnv:g.vs.length≤9223372036854775807) (htab:TabF w) :
    Calls Tryz.prog 29 #[grS g av cv aa ca ae ce] w (fun e w'=>e=.returned (.int .i64 (chkG g))∧Below w.heap.size w w'):=by
 obtain ⟨W1,hW1⟩:∃ W1,w.alloc (.cells (grB g av cv aa ca ae ce) 30)=W1:=⟨_,rfl⟩
 obtain ⟨X,hX⟩:∃ X,w.heap.size=X:=⟨_,rfl⟩
 have hx1:Blk W1 X (grB g av cv aa ca ae ce) 30:=by rw [← hW1,← hX];exact Blk.new w _ _
 have hb1:Below w.heap.size w W1:=by rw [← hW1];exact (Below.refl _ w).alloc (Nat.le_refl _) _
 have HOG:=zh (outgrown_any av aa ae g.vs.length cv g.ar.length ca g.es.length ce hnv g.tmp g.pts g.ext W1)
 have HFM:=zh (fun w' (hb:Below w.heap.size w w') h0 h1 h2 h3 h4=>formed_any g av aa ae cv ca ce w' (hg.next hb) (htab.next hb) h0 h1 h2 h3 h4)
 obtain ⟨F,hF⟩:∃ f,outF (g.vs.length:Int) g.tmp g.pts (g.es.length:Int)=f:=⟨_,rfl⟩
 have hck:chkG g=if F≠0 then F else if frm g then 0 else 92:=by rw [← hF];rfl
 rw [hF] at HOG
 rw [hck]
 have x0:=hx1.cell 0
 have x1:=hx1.cell 1
 have x2:=hx1.cell 2
 have x3:=hx1.cell 3
 have x4:=hx1.cell 4
 have x5:=hx1.cell 5
 simp only [grB,List.getElem?_toArray,List.getElem?_cons_zero,List.getElem?_cons_succ] at x0 x1 x2 x3 x4 x5
 have H1:=zh (za hx1 (za hb1 hF))
 have HE:=zh (za hW1 hX)
 clear hx1 hb1 hW1 hX hg hnv htab hF hck
 by_cases hz:F=0
 · subst hz
   obtain ⟨q1,q2,q3,q4,q5⟩:=out_zero H1.out.2.2
   have HFM2:=zh (fun w' (hb:Below w.heap.size w w')=>HFM.out w' hb (show 0≤g.nv by unfold Gf.nv;omega) (show g.nv≤1099511627776 by unfold Gf.nv;omega) q3 q4 (by omega))
   obtain ⟨B,hB⟩:∃ b,frm g=b:=⟨_,rfl⟩
   rw [hB] at HFM2 ⊢
   clear hB HFM q1 q2 q3 q4 q5
   cases B
   all_goals
    go_enter Tryz.func29,Tryz.ntmps29
    go_upto_region 1 with fail
    rw [HE.out.1,HE.out.2]
    go_upto_region 4 with (first | (go_at_call 18;(with_reducible refine HOG.out.mono ?_);rintro e w2 ⟨rfl,hb2⟩;have z:=(H1.out.1.next hb2).cell;have HB2:=zh (H1.out.2.1.trans (hb2.mono H1.out.2.1.size));clear hb2 x0 x1 x2 x3 x4 x5) | fail)
    go_wp2_with (first | (go_at_call 46;(with_reducible refine (HFM2.out _ HB2.out).mono ?_);rintro e w3 ⟨rfl,hb3⟩) | fail)
    go_ret
    exact ⟨rfl,HB2.out.trans (hb3.mono HB2.out.size)⟩
 · have t1:(F != 0)=true:=by simpa using hz
   rw [if_pos hz]
   clear hz HFM
   go_enter Tryz.func29,Tryz.ntmps29
   go_upto_region 1 with fail
   rw [HE.out.1,HE.out.2]
   go_wp2_with (first | (go_at_call 18;(with_reducible refine HOG.out.mono ?_);rintro e w2 ⟨rfl,hb2⟩) | fail)
   go_ret
   exact ⟨rfl,H1.out.2.1.trans (hb2.mono H1.out.2.1.size)⟩
theorem EdsAt.row {w:World} {l:List Ed} {a:Option Addr} {c:Nat} (h:EdsAt w l (.slice a l.length c)):l.length=0∨∃ b o,a=some ⟨b,o,none⟩∧∀ i (hi:i<l.length) j u,(edV l[i])[j]?=some u→w.cell? ⟨b,o+(i * 10+j),none⟩=some u:=by
 obtain ⟨_,_,hs,-,-,h⟩:=h
 cases hs
 exact h
end Go.Proofs.YtmohmggnjldddaaGreatDoor
