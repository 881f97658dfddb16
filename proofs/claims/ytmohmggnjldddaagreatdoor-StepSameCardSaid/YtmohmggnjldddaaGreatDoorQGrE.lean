/-
  A graph's checks: right, all[api.Edge]: proved is that they tell whether edges are right, those beside them left aside.
-/
import Derived.Test.YtmohmggnjldddaaGreatDoorQStA
import Derived.Test.YtmohmggnjldddaaGreatDoorQReg
import Derived.Test.YtmohmggnjldddaaGreatDoorQAbb
namespace Go.Proofs.YtmohmggnjldddaaGreatDoor
set_option maxHeartbeats 8000000
set_option maxRecDepth 100000
open Go Go.RowKit Go.Maps
abbrev edA (e:Ed):Array Value:=#[.int .i64 e.fr,.int .i64 e.dt,.int .i64 e.kd,.int .i64 e.dst,.int .i64 e.arr,.int .i64 e.op,.int .i64 e.av,.int .i64 e.an,.int .i64 e.bv,.int .i64 e.bn]
def TabF (w:World):Prop:=∀ k:Nat,1≤k→k≤14→w.cell? ⟨0,k * 5,none⟩=some (.bool (kDst k))∧w.cell? ⟨0,k * 5+1,none⟩=some (.bool (kArr k))∧w.cell? ⟨0,k * 5+2,none⟩=some (.bool (kOp k))∧w.cell? ⟨0,k * 5+3,none⟩=some (.bool (kA k))∧w.cell? ⟨0,k * 5+4,none⟩=some (.bool (kB k))
theorem TabF.next {w w':World} (h:TabF w) (hb:Below w.heap.size w w'):TabF w':=fun k h1 h2=>by
 obtain ⟨a,b,c,d,e⟩:=h k h1 h2
 have kk:=keeps_below hb
 exact ⟨kk _ _ _ a,kk _ _ _ b,kk _ _ _ c,kk _ _ _ d,kk _ _ _ e⟩
theorem right_any (g:Gf) (av aa ae:Option Addr) (cv ca ce:Nat) (h0:0≤g.nv) (h1:g.nv≤1099511627776) (e:Ed) (w:World) (htab:TabF w) :
    Calls Tryz.prog 82 #[grS g av cv aa ca ae ce,edgeV e] w (fun r w'=>r=.returned (.bool (edR g.nv (g.ar.length:Int) g.pts g.ext e))∧Below w.heap.size w w'):=by
 obtain ⟨W1,hW1⟩:∃ W1,(w.alloc (.cells (grB g av cv aa ca ae ce) 153)).alloc (.cells (edA e) 40)=W1:=⟨_,rfl⟩
 obtain ⟨X,hX⟩:∃ X,w.heap.size=X:=⟨_,rfl⟩
 obtain ⟨Y,hY⟩:∃ Y,(w.alloc (.cells (grB g av cv aa ca ae ce) 153)).heap.size=Y:=⟨_,rfl⟩
 have hx:Blk W1 X (grB g av cv aa ca ae ce) 153:=by rw [← hW1,← hX];exact (Blk.new w _ _).alloc _
 have hy:Blk W1 Y (edA e) 40:=by rw [← hW1,← hY];exact Blk.new _ _ _
 have hb1:Below w.heap.size w W1:=by rw [← hW1];exact ((Below.refl _ w).alloc (Nat.le_refl _) _).alloc (by simp) _
 have hXY:X+1=Y:=by rw [← hX,← hY,World.size_alloc]
 have y2:W1.cell? ⟨Y,2,none⟩=some (.int .i64 e.kd):=hy.cell 2
 have HE:=zh (za hW1 (za hX hXY))
 have HV:=fun w=>variables_any g av aa ae cv ca ce h0 h1 w
 have HOP:=zh (fun has v m w=>goperand_any g av aa ae cv ca ce h0 h1 has v m w)
 have H1:=zh (za hx (za hy (za hb1 (htab.next hb1))))
 clear hx hy hb1 hW1 hX hXY hY h0 h1 htab
 by_cases hk1:e.kd<1
 · have hr:edR g.nv (g.ar.length:Int) g.pts g.ext e=false:=by unfold edR kdR;rw [decide_eq_false (by omega)];rfl
   rw [hr]
   have d1:decide (e.kd<1)=true:=by simpa using hk1
   clear hr hk1 HV
   go_enter Tryz.func82,Tryz.ntmps82
   go_upto_region 1 with fail
   simp only [HE.out.1,HE.out.2.1,HE.out.2.2]
   go_wp2_with fail
   go_ret
   exact ⟨rfl,H1.out.2.2.1⟩
 have d1:decide (e.kd<1)=false:=by simpa using hk1
 by_cases hk2:14<e.kd
 · have hr:edR g.nv (g.ar.length:Int) g.pts g.ext e=false:=by unfold edR kdR;rw [decide_eq_false (by omega)];rfl
   rw [hr]
   have d2:decide (14<e.kd)=true:=by simpa using hk2
   clear hr hk1 hk2 HV
   go_enter Tryz.func82,Tryz.ntmps82
   go_upto_region 1 with fail
   simp only [HE.out.1,HE.out.2.1,HE.out.2.2]
   go_wp2_with fail
   go_ret
   exact ⟨rfl,H1.out.2.2.1⟩
 have d2:decide (14<e.kd)=false:=by simpa using hk2
 obtain ⟨k,hk⟩:∃ k:Nat,e.kd=k:=⟨e.kd.toNat,by omega⟩
 have hk15:(k:Int)<15:=by omega
 obtain ⟨t0,t1,t2,t3,t4⟩:=H1.out.2.2.2 k (by omega) (by omega)
 have hr:edR g.nv (g.ar.length:Int) g.pts g.ext e=(endR g.pts g.ext e&&namR g.nv (g.ar.length:Int) e&&opd (kA e.kd) e.av e.an g.nv&&opd (kB e.kd) e.bv e.bn g.nv):=by
  unfold edR kdR;rw [decide_eq_true (by omega)];rfl
 rw [hr]
 have hnm:namR g.nv (g.ar.length:Int) e=(plc (kDst e.kd) e.dst g.nv&&plc (kArr e.kd) e.arr (g.ar.length:Int)&&cmps (kOp e.kd) e.op):=rfl
 rw [hnm,hk]
 rw [hk] at y2 d1 d2
 obtain ⟨bD,hbD⟩:∃ b,kDst (k:Int)=b:=⟨_,rfl⟩
 obtain ⟨bA,hbA⟩:∃ b,kArr (k:Int)=b:=⟨_,rfl⟩
 obtain ⟨bO,hbO⟩:∃ b,kOp (k:Int)=b:=⟨_,rfl⟩
 obtain ⟨b1,hb1⟩:∃ b,kA (k:Int)=b:=⟨_,rfl⟩
 obtain ⟨b2,hb2⟩:∃ b,kB (k:Int)=b:=⟨_,rfl⟩
 rw [hbD] at t0 ⊢
 rw [hbA] at t1 ⊢
 rw [hbO] at t2 ⊢
 rw [hb1] at t3 ⊢
 rw [hb2] at t4 ⊢
 obtain ⟨W2,hW2⟩:∃ W2,W1.alloc (.cells #[.bool bD,.bool bA,.bool bO,.bool b1,.bool b2] 191)=W2:=⟨_,rfl⟩
 obtain ⟨Z,hZ⟩:∃ Z,W1.heap.size=Z:=⟨_,rfl⟩
 have hz:Blk W2 Z #[.bool bD,.bool bA,.bool bO,.bool b1,.bool b2] 191:=by rw [← hW2,← hZ];exact Blk.new _ _ _
 have hx:Blk W2 X (grB g av cv aa ca ae ce) 153:=by rw [← hW2];exact H1.out.1.alloc _
 have hy:Blk W2 Y (edA e) 40:=by rw [← hW2];exact H1.out.2.1.alloc _
 have hb12:Below W1.heap.size W1 W2:=by rw [← hW2];exact (Below.refl _ W1).alloc (Nat.le_refl _) _
 have hbw:Below w.heap.size w W2:=H1.out.2.2.1.trans (hb12.mono H1.out.2.2.1.size)
 have HNV:=fun w=>place_any bD e.dst g.nv w
 have HPA:=fun w=>place_any bA e.arr (g.ar.length:Int) w
 have HCM:=fun w=>gcompares_any bO e.op w
 have HA1:=fun w=>among_any e.fr g.pts w
 have HA2:=fun w=>among_any e.dt g.pts w
 have hen:endR g.pts g.ext e=(amg e.fr g.pts&&amg e.dt g.pts&&e.fr != g.ext):=rfl
 rw [hen]
 obtain ⟨A1,hA1⟩:∃ b,amg e.fr g.pts=b:=⟨_,rfl⟩
 obtain ⟨A2,hA2⟩:∃ b,amg e.dt g.pts=b:=⟨_,rfl⟩
 obtain ⟨A3,hA3⟩:∃ b,(e.fr != g.ext)=b:=⟨_,rfl⟩
 rw [hA1] at HA1 ⊢
 rw [hA2] at HA2 ⊢
 rw [hA3]
 obtain ⟨EB,hEB⟩:∃ b,(A1&&A2&&A3)=b:=⟨_,rfl⟩
 rw [hEB]
 obtain ⟨P1,hP1⟩:∃ b,plc bD e.dst g.nv=b:=⟨_,rfl⟩
 obtain ⟨P2,hP2⟩:∃ b,plc bA e.arr (g.ar.length:Int)=b:=⟨_,rfl⟩
 obtain ⟨P3,hP3⟩:∃ b,cmps bO e.op=b:=⟨_,rfl⟩
 rw [hP1] at HNV ⊢
 rw [hP2] at HPA ⊢
 rw [hP3] at HCM ⊢
 obtain ⟨NB,hNB⟩:∃ b,(P1&&P2&&P3)=b:=⟨_,rfl⟩
 rw [hNB]
 have HO1:=zh (fun w=>HOP.out b1 e.av e.an w)
 have HO2:=zh (fun w=>HOP.out b2 e.bv e.bn w)
 obtain ⟨O1,hO1⟩:∃ b,opd b1 e.av e.an g.nv=b:=⟨_,rfl⟩
 obtain ⟨O2,hO2⟩:∃ b,opd b2 e.bv e.bn g.nv=b:=⟨_,rfl⟩
 rw [hO1] at HO1 ⊢
 rw [hO2] at HO2 ⊢
 obtain ⟨NV,hNV⟩:∃ n,g.nv=n:=⟨_,rfl⟩
 rw [hNV] at HV HNV
 have xc:=fun w' (hW:Below W2.heap.size W2 w')=>(hx.below hW hx.lt)
 have yc:=fun w' (hW:Below W2.heap.size W2 w')=>(hy.below hW hy.lt)
 have zc:=fun w' (hW:Below W2.heap.size W2 w')=>(hz.below hW hz.lt)
 have KS:=fun w' (hW:Below W2.heap.size W2 w')=>(⟨(xc w' hW).cell 0,(xc w' hW).cell 1,(xc w' hW).cell 2,(xc w' hW).cell 3,(xc w' hW).cell 4,(xc w' hW).cell 5,(yc w' hW).cell 3,(yc w' hW).cell 4,(yc w' hW).cell 5,(zc w' hW).cell 0,(zc w' hW).cell 1,(zc w' hW).cell 2,hW⟩:(fun w'=>w'.cell? ⟨X,0,none⟩=some (.slice av g.vs.length cv)∧w'.cell? ⟨X,1,none⟩=some (.int .i64 g.tmp)∧w'.cell? ⟨X,2,none⟩=some (.slice aa g.ar.length ca)∧w'.cell? ⟨X,3,none⟩=some (.int .i64 g.pts)∧w'.cell? ⟨X,4,none⟩=some (.int .i64 g.ext)∧w'.cell? ⟨X,5,none⟩=some (.slice ae g.es.length ce)∧w'.cell? ⟨Y,3,none⟩=some (.int .i64 e.dst)∧w'.cell? ⟨Y,4,none⟩=some (.int .i64 e.arr)∧w'.cell? ⟨Y,5,none⟩=some (.int .i64 e.op)∧w'.cell? ⟨Z,0,none⟩=some (.bool bD)∧w'.cell? ⟨Z,1,none⟩=some (.bool bA)∧w'.cell? ⟨Z,2,none⟩=some (.bool bO)∧Below W2.heap.size W2 w') w')
 have H2:=zh (za hbw (za xc (za yc zc)))
 have HE2:=zh (za hW2 hZ)
 clear hbD hbA hbO hb1 hb2 hW2 hZ hz hx hy hb12 hbw hA1 hA2 hP1 hP2 hP3 hO1 hO2 hNV xc yc zc hr hnm hen hk hk1 hk2 HOP H1
 have x3:W2.cell? ⟨X,3,none⟩=some (.int .i64 g.pts):=(H2.out.2.1 W2 (Below.refl _ _)).cell 3
 have x4:W2.cell? ⟨X,4,none⟩=some (.int .i64 g.ext):=(H2.out.2.1 W2 (Below.refl _ _)).cell 4
 have y0:W2.cell? ⟨Y,0,none⟩=some (.int .i64 e.fr):=(H2.out.2.2.1 W2 (Below.refl _ _)).cell 0
 have y1:W2.cell? ⟨Y,1,none⟩=some (.int .i64 e.dt):=(H2.out.2.2.1 W2 (Below.refl _ _)).cell 1
 go_enter Tryz.func82,Tryz.ntmps82
 go_upto_region 1 with fail
 simp only [HE.out.1,HE.out.2.1,HE.out.2.2]
 go_upto_region 4 with fail
 rw [HE2.out.1,HE2.out.2]
 clear t0 t1 t2 t3 t4
 go_cut [6] (fun s wx=>s=.bool EB∧wx=W2)
 case first =>
  cases A1<;>cases A2
  all_goals
   go_wp2_with (first | (go_at_call 80;(with_reducible refine (HA1 _).mono ?_);rintro r w3 ⟨rfl,rfl⟩) | (go_at_call 80;(with_reducible refine (HA2 _).mono ?_);rintro r w3 ⟨rfl,rfl⟩) | fail)
   go_meet
   exact ⟨by rw [← hEB];rfl,rfl⟩
 case rest =>
  obtain ⟨rfl,rfl⟩:=hcut
  clear hEB HA1 HA2 A1 A2 hA3 x3 x4 y0 y1 y2
  obtain ⟨wa,hwa⟩:∃ x,x=wc:=⟨_,rfl⟩
  subst hwa
  obtain ⟨s0,s1,s2,s3,s4,s5,s6,s7,s8,s9,s10,s11,-⟩:=KS wa (Below.refl _ _)
  go_upto_region 5 with fail
  go_cut [7] (fun s w5=>s=.bool NB∧Below wa.heap.size wa w5)
  case first =>
   have hcase:P1=false∨(P1=true∧P2=false)∨(P1=true∧P2=true):=by cases P1<;>cases P2<;>simp
   rcases hcase with rfl | ⟨rfl,rfl⟩ | ⟨rfl,rfl⟩
   · refine wp_region_any (by kernel_rfl) ?_
     refine wpAny_vals [39,40,41,42,43,44,45,46,47,48,49,50,51,52,53,54,55,56,57,58,59,60,61,62,7] [.pointer (some ⟨Z,0,none⟩),.bool bD,.pointer (some ⟨Y,3,none⟩),.int .i64 e.dst,.agg #[.slice av g.vs.length cv,.int .i64 g.tmp,.slice aa g.ar.length ca,.int .i64 g.pts,.int .i64 g.ext,.slice ae g.es.length ce],.int .i64 NV,.bool false,.bool false,undef,undef,undef,undef,undef,undef,undef,undef,.bool false,.bool false,undef,undef,undef,undef,undef,.bool false,.bool false] (fun w'=>Below wa.heap.size wa w') rfl (by kernel_rfl) (by decide) (by kernel_rfl) ?hs ?he ?hj
     case hj=>exact (Below.refl _ _).drew
     case hs =>
      intro i o ho fr0 hv hx w' hJ
      have hi:i<25:=(Array.getElem?_eq_some_iff.1 ho).1
      obtain ⟨c0,c1,c2,c3,c4,c5,c6,c7,c8,c9,c10,c11,-⟩:=KS w' hJ
      have HJ:=zh hJ
      clear hJ
      have hcase:i=0∨i=1∨i=2∨i=3∨i=4∨i=5∨i=6∨i=7∨i=8∨i=9∨i=10∨i=11∨i=12∨i=13∨i=14∨i=15∨i=16∨i=17∨i=18∨i=19∨i=20∨i=21∨i=22∨i=23∨i=24:=by omega
      clear hi
      rcases hcase with rfl | rfl | rfl | rfl | rfl | rfl | rfl | rfl | rfl | rfl | rfl | rfl | rfl | rfl | rfl | rfl | rfl | rfl | rfl | rfl | rfl | rfl | rfl | rfl | rfl
      · obtain rfl:=Option.some.inj ho.symm
        clear ho
        have x5:fr0.tmps[(5:Nat)]?=some (.pointer (some ⟨Z,0,none⟩)):=hx 5 (by decide)
        clear hv hx
        refine wpOp_step rfl (fun K hK=>?_)
        go_simp
        exact hK _ _ ⟨rfl,HJ.out⟩
      · obtain rfl:=Option.some.inj ho.symm
        clear ho
        have d0:fr0.tmps[(39:Nat)]?=some (.pointer (some ⟨Z,0,none⟩)):=hv ⟨0,.data⟩ (by simp) rfl
        clear hv hx
        refine wpOp_step rfl (fun K hK=>?_)
        go_simp
        exact hK _ _ ⟨rfl,HJ.out⟩
      · obtain rfl:=Option.some.inj ho.symm
        clear ho
        have x3:fr0.tmps[(3:Nat)]?=some (.pointer (some ⟨Y,0,none⟩)):=hx 3 (by decide)
        clear hv hx
        refine wpOp_step rfl (fun K hK=>?_)
        go_simp
        exact hK _ _ ⟨rfl,HJ.out⟩
      · obtain rfl:=Option.some.inj ho.symm
        clear ho
        have d2:fr0.tmps[(41:Nat)]?=some (.pointer (some ⟨Y,3,none⟩)):=hv ⟨2,.data⟩ (by simp) rfl
        clear hv hx
        refine wpOp_step rfl (fun K hK=>?_)
        go_simp
        exact hK _ _ ⟨rfl,HJ.out⟩
      · obtain rfl:=Option.some.inj ho.symm
        clear ho
        have x2:fr0.tmps[(2:Nat)]?=some (.pointer (some ⟨X,0,none⟩)):=hx 2 (by decide)
        clear hv hx
        refine wpOp_step rfl (fun K hK=>?_)
        go_simp
        exact hK _ _ ⟨rfl,HJ.out⟩
      · obtain rfl:=Option.some.inj ho.symm
        clear ho
        have d4:fr0.tmps[(43:Nat)]?=some (.agg #[.slice av g.vs.length cv,.int .i64 g.tmp,.slice aa g.ar.length ca,.int .i64 g.pts,.int .i64 g.ext,.slice ae g.es.length ce]):=hv ⟨4,.data⟩ (by simp) rfl
        clear hv hx
        refine wpOp_step rfl (fun K hK=>?_)
        go_simp
        refine (HV _).mono ?_
        rintro r w3 ⟨rfl,hb3⟩
        exact hK _ _ ⟨rfl,HJ.out.trans (hb3.mono HJ.out.size)⟩
      · obtain rfl:=Option.some.inj ho.symm
        clear ho
        have d1:fr0.tmps[(40:Nat)]?=some (.bool bD):=hv ⟨1,.data⟩ (by simp) rfl
        have d3:fr0.tmps[(42:Nat)]?=some (.int .i64 e.dst):=hv ⟨3,.data⟩ (by simp) rfl
        have d5:fr0.tmps[(44:Nat)]?=some (.int .i64 NV):=hv ⟨5,.data⟩ (by simp) rfl
        clear hv hx
        refine wpOp_step rfl (fun K hK=>?_)
        go_simp
        refine (HNV _).mono ?_
        rintro r w3 ⟨rfl,rfl⟩
        exact hK _ _ ⟨rfl,HJ.out⟩
      · obtain rfl:=Option.some.inj ho.symm
        clear ho
        have d6:fr0.tmps[(45:Nat)]?=some (.bool false):=hv ⟨6,.data⟩ (by simp) rfl
        clear hv hx
        refine wpOp_step rfl (fun K hK=>?_)
        go_simp
        exact hK _ _ ⟨rfl,HJ.out⟩
      · obtain rfl:=Option.some.inj ho.symm
        clear ho
        have d7:fr0.tmps[(46:Nat)]?=some (.bool false):=hv ⟨7,.guard⟩ (by simp) rfl
        have x5:fr0.tmps[(5:Nat)]?=some (.pointer (some ⟨Z,0,none⟩)):=hx 5 (by decide)
        clear hv hx
        refine wpOp_step rfl (fun K hK=>?_)
        go_simp
        exact hK _ _ ⟨rfl,HJ.out⟩
      · obtain rfl:=Option.some.inj ho.symm
        clear ho
        have d8:fr0.tmps[(47:Nat)]?=some (undef):=hv ⟨8,.data⟩ (by simp) rfl
        have d7:fr0.tmps[(46:Nat)]?=some (.bool false):=hv ⟨7,.guard⟩ (by simp) rfl
        clear hv hx
        refine wpOp_step rfl (fun K hK=>?_)
        go_simp
        exact hK _ _ ⟨rfl,HJ.out⟩
      · obtain rfl:=Option.some.inj ho.symm
        clear ho
        have d7:fr0.tmps[(46:Nat)]?=some (.bool false):=hv ⟨7,.guard⟩ (by simp) rfl
        have x3:fr0.tmps[(3:Nat)]?=some (.pointer (some ⟨Y,0,none⟩)):=hx 3 (by decide)
        clear hv hx
        refine wpOp_step rfl (fun K hK=>?_)
        go_simp
        exact hK _ _ ⟨rfl,HJ.out⟩
      · obtain rfl:=Option.some.inj ho.symm
        clear ho
        have d10:fr0.tmps[(49:Nat)]?=some (undef):=hv ⟨10,.data⟩ (by simp) rfl
        have d7:fr0.tmps[(46:Nat)]?=some (.bool false):=hv ⟨7,.guard⟩ (by simp) rfl
        clear hv hx
        refine wpOp_step rfl (fun K hK=>?_)
        go_simp
        exact hK _ _ ⟨rfl,HJ.out⟩
      · obtain rfl:=Option.some.inj ho.symm
        clear ho
        have d7:fr0.tmps[(46:Nat)]?=some (.bool false):=hv ⟨7,.guard⟩ (by simp) rfl
        have x2:fr0.tmps[(2:Nat)]?=some (.pointer (some ⟨X,0,none⟩)):=hx 2 (by decide)
        clear hv hx
        refine wpOp_step rfl (fun K hK=>?_)
        go_simp
        exact hK _ _ ⟨rfl,HJ.out⟩
      · obtain rfl:=Option.some.inj ho.symm
        clear ho
        have d12:fr0.tmps[(51:Nat)]?=some (undef):=hv ⟨12,.data⟩ (by simp) rfl
        have d7:fr0.tmps[(46:Nat)]?=some (.bool false):=hv ⟨7,.guard⟩ (by simp) rfl
        clear hv hx
        refine wpOp_step rfl (fun K hK=>?_)
        go_simp
        exact hK _ _ ⟨rfl,HJ.out⟩
      · obtain rfl:=Option.some.inj ho.symm
        clear ho
        have d13:fr0.tmps[(52:Nat)]?=some (undef):=hv ⟨13,.data⟩ (by simp) rfl
        have d7:fr0.tmps[(46:Nat)]?=some (.bool false):=hv ⟨7,.guard⟩ (by simp) rfl
        clear hv hx
        refine wpOp_step rfl (fun K hK=>?_)
        go_simp
        exact hK _ _ ⟨rfl,HJ.out⟩
      · obtain rfl:=Option.some.inj ho.symm
        clear ho
        have d9:fr0.tmps[(48:Nat)]?=some (undef):=hv ⟨9,.data⟩ (by simp) rfl
        have d11:fr0.tmps[(50:Nat)]?=some (undef):=hv ⟨11,.data⟩ (by simp) rfl
        have d14:fr0.tmps[(53:Nat)]?=some (undef):=hv ⟨14,.data⟩ (by simp) rfl
        have d7:fr0.tmps[(46:Nat)]?=some (.bool false):=hv ⟨7,.guard⟩ (by simp) rfl
        clear hv hx
        refine wpOp_step rfl (fun K hK=>?_)
        go_simp
        exact hK _ _ ⟨rfl,HJ.out⟩
      · obtain rfl:=Option.some.inj ho.symm
        clear ho
        have d7:fr0.tmps[(46:Nat)]?=some (.bool false):=hv ⟨7,.data⟩ (by simp) rfl
        have d15:fr0.tmps[(54:Nat)]?=some (undef):=hv ⟨15,.data⟩ (by simp) rfl
        clear hv hx
        refine wpOp_step rfl (fun K hK=>?_)
        go_simp
        exact hK _ _ ⟨rfl,HJ.out⟩
      · obtain rfl:=Option.some.inj ho.symm
        clear ho
        have d16:fr0.tmps[(55:Nat)]?=some (.bool false):=hv ⟨16,.data⟩ (by simp) rfl
        clear hv hx
        refine wpOp_step rfl (fun K hK=>?_)
        go_simp
        exact hK _ _ ⟨rfl,HJ.out⟩
      · obtain rfl:=Option.some.inj ho.symm
        clear ho
        have d17:fr0.tmps[(56:Nat)]?=some (.bool false):=hv ⟨17,.guard⟩ (by simp) rfl
        have x5:fr0.tmps[(5:Nat)]?=some (.pointer (some ⟨Z,0,none⟩)):=hx 5 (by decide)
        clear hv hx
        refine wpOp_step rfl (fun K hK=>?_)
        go_simp
        exact hK _ _ ⟨rfl,HJ.out⟩
      · obtain rfl:=Option.some.inj ho.symm
        clear ho
        have d18:fr0.tmps[(57:Nat)]?=some (undef):=hv ⟨18,.data⟩ (by simp) rfl
        have d17:fr0.tmps[(56:Nat)]?=some (.bool false):=hv ⟨17,.guard⟩ (by simp) rfl
        clear hv hx
        refine wpOp_step rfl (fun K hK=>?_)
        go_simp
        exact hK _ _ ⟨rfl,HJ.out⟩
      · obtain rfl:=Option.some.inj ho.symm
        clear ho
        have d17:fr0.tmps[(56:Nat)]?=some (.bool false):=hv ⟨17,.guard⟩ (by simp) rfl
        have x3:fr0.tmps[(3:Nat)]?=some (.pointer (some ⟨Y,0,none⟩)):=hx 3 (by decide)
        clear hv hx
        refine wpOp_step rfl (fun K hK=>?_)
        go_simp
        exact hK _ _ ⟨rfl,HJ.out⟩
      · obtain rfl:=Option.some.inj ho.symm
        clear ho
        have d20:fr0.tmps[(59:Nat)]?=some (undef):=hv ⟨20,.data⟩ (by simp) rfl
        have d17:fr0.tmps[(56:Nat)]?=some (.bool false):=hv ⟨17,.guard⟩ (by simp) rfl
        clear hv hx
        refine wpOp_step rfl (fun K hK=>?_)
        go_simp
        exact hK _ _ ⟨rfl,HJ.out⟩
      · obtain rfl:=Option.some.inj ho.symm
        clear ho
        have d19:fr0.tmps[(58:Nat)]?=some (undef):=hv ⟨19,.data⟩ (by simp) rfl
        have d21:fr0.tmps[(60:Nat)]?=some (undef):=hv ⟨21,.data⟩ (by simp) rfl
        have d17:fr0.tmps[(56:Nat)]?=some (.bool false):=hv ⟨17,.guard⟩ (by simp) rfl
        clear hv hx
        refine wpOp_step rfl (fun K hK=>?_)
        go_simp
        exact hK _ _ ⟨rfl,HJ.out⟩
      · obtain rfl:=Option.some.inj ho.symm
        clear ho
        have d17:fr0.tmps[(56:Nat)]?=some (.bool false):=hv ⟨17,.data⟩ (by simp) rfl
        have d22:fr0.tmps[(61:Nat)]?=some (undef):=hv ⟨22,.data⟩ (by simp) rfl
        clear hv hx
        refine wpOp_step rfl (fun K hK=>?_)
        go_simp
        exact hK _ _ ⟨rfl,HJ.out⟩
      · obtain rfl:=Option.some.inj ho.symm
        clear ho
        have d23:fr0.tmps[(62:Nat)]?=some (.bool false):=hv ⟨23,.data⟩ (by simp) rfl
        clear hv hx
        refine wpOp_step rfl (fun K hK=>?_)
        go_simp
        exact hK _ _ ⟨rfl,HJ.out⟩
     case he =>
      intro w' hJ
      simp only [putF,valsAt,Nat.reduceAdd,Nat.zero_add,List.getD_cons_zero,List.getD_cons_succ,Act.put,List.setIfInBounds_toArray,List.set_cons_succ,List.set_cons_zero]
      go_wp2_with fail
      go_meet
      exact ⟨by rw [← hNB];rfl,hJ⟩
   · refine wp_region_any (by kernel_rfl) ?_
     refine wpAny_vals [39,40,41,42,43,44,45,46,47,48,49,50,51,52,53,54,55,56,57,58,59,60,61,62,7] [.pointer (some ⟨Z,0,none⟩),.bool bD,.pointer (some ⟨Y,3,none⟩),.int .i64 e.dst,.agg #[.slice av g.vs.length cv,.int .i64 g.tmp,.slice aa g.ar.length ca,.int .i64 g.pts,.int .i64 g.ext,.slice ae g.es.length ce],.int .i64 NV,.bool true,.bool true,.pointer (some ⟨Z,1,none⟩),.bool bA,.pointer (some ⟨Y,4,none⟩),.int .i64 e.arr,.pointer (some ⟨X,2,none⟩),.slice aa g.ar.length ca,.int .i64 (g.ar.length:Int),.bool false,.bool false,.bool false,undef,undef,undef,undef,undef,.bool false,.bool false] (fun w'=>Below wa.heap.size wa w') rfl (by kernel_rfl) (by decide) (by kernel_rfl) ?hs ?he ?hj
     case hj=>exact (Below.refl _ _).drew
     case hs =>
      intro i o ho fr0 hv hx w' hJ
      have hi:i<25:=(Array.getElem?_eq_some_iff.1 ho).1
      obtain ⟨c0,c1,c2,c3,c4,c5,c6,c7,c8,c9,c10,c11,-⟩:=KS w' hJ
      have HJ:=zh hJ
      clear hJ
      have hcase:i=0∨i=1∨i=2∨i=3∨i=4∨i=5∨i=6∨i=7∨i=8∨i=9∨i=10∨i=11∨i=12∨i=13∨i=14∨i=15∨i=16∨i=17∨i=18∨i=19∨i=20∨i=21∨i=22∨i=23∨i=24:=by omega
      clear hi
      rcases hcase with rfl | rfl | rfl | rfl | rfl | rfl | rfl | rfl | rfl | rfl | rfl | rfl | rfl | rfl | rfl | rfl | rfl | rfl | rfl | rfl | rfl | rfl | rfl | rfl | rfl
      · obtain rfl:=Option.some.inj ho.symm
        clear ho
        have x5:fr0.tmps[(5:Nat)]?=some (.pointer (some ⟨Z,0,none⟩)):=hx 5 (by decide)
        clear hv hx
        refine wpOp_step rfl (fun K hK=>?_)
        go_simp
        exact hK _ _ ⟨rfl,HJ.out⟩
      · obtain rfl:=Option.some.inj ho.symm
        clear ho
        have d0:fr0.tmps[(39:Nat)]?=some (.pointer (some ⟨Z,0,none⟩)):=hv ⟨0,.data⟩ (by simp) rfl
        clear hv hx
        refine wpOp_step rfl (fun K hK=>?_)
        go_simp
        exact hK _ _ ⟨rfl,HJ.out⟩
      · obtain rfl:=Option.some.inj ho.symm
        clear ho
        have x3:fr0.tmps[(3:Nat)]?=some (.pointer (some ⟨Y,0,none⟩)):=hx 3 (by decide)
        clear hv hx
        refine wpOp_step rfl (fun K hK=>?_)
        go_simp
        exact hK _ _ ⟨rfl,HJ.out⟩
      · obtain rfl:=Option.some.inj ho.symm
        clear ho
        have d2:fr0.tmps[(41:Nat)]?=some (.pointer (some ⟨Y,3,none⟩)):=hv ⟨2,.data⟩ (by simp) rfl
        clear hv hx
        refine wpOp_step rfl (fun K hK=>?_)
        go_simp
        exact hK _ _ ⟨rfl,HJ.out⟩
      · obtain rfl:=Option.some.inj ho.symm
        clear ho
        have x2:fr0.tmps[(2:Nat)]?=some (.pointer (some ⟨X,0,none⟩)):=hx 2 (by decide)
        clear hv hx
        refine wpOp_step rfl (fun K hK=>?_)
        go_simp
        exact hK _ _ ⟨rfl,HJ.out⟩
      · obtain rfl:=Option.some.inj ho.symm
        clear ho
        have d4:fr0.tmps[(43:Nat)]?=some (.agg #[.slice av g.vs.length cv,.int .i64 g.tmp,.slice aa g.ar.length ca,.int .i64 g.pts,.int .i64 g.ext,.slice ae g.es.length ce]):=hv ⟨4,.data⟩ (by simp) rfl
        clear hv hx
        refine wpOp_step rfl (fun K hK=>?_)
        go_simp
        refine (HV _).mono ?_
        rintro r w3 ⟨rfl,hb3⟩
        exact hK _ _ ⟨rfl,HJ.out.trans (hb3.mono HJ.out.size)⟩
      · obtain rfl:=Option.some.inj ho.symm
        clear ho
        have d1:fr0.tmps[(40:Nat)]?=some (.bool bD):=hv ⟨1,.data⟩ (by simp) rfl
        have d3:fr0.tmps[(42:Nat)]?=some (.int .i64 e.dst):=hv ⟨3,.data⟩ (by simp) rfl
        have d5:fr0.tmps[(44:Nat)]?=some (.int .i64 NV):=hv ⟨5,.data⟩ (by simp) rfl
        clear hv hx
        refine wpOp_step rfl (fun K hK=>?_)
        go_simp
        refine (HNV _).mono ?_
        rintro r w3 ⟨rfl,rfl⟩
        exact hK _ _ ⟨rfl,HJ.out⟩
      · obtain rfl:=Option.some.inj ho.symm
        clear ho
        have d6:fr0.tmps[(45:Nat)]?=some (.bool true):=hv ⟨6,.data⟩ (by simp) rfl
        clear hv hx
        refine wpOp_step rfl (fun K hK=>?_)
        go_simp
        exact hK _ _ ⟨rfl,HJ.out⟩
      · obtain rfl:=Option.some.inj ho.symm
        clear ho
        have d7:fr0.tmps[(46:Nat)]?=some (.bool true):=hv ⟨7,.guard⟩ (by simp) rfl
        have x5:fr0.tmps[(5:Nat)]?=some (.pointer (some ⟨Z,0,none⟩)):=hx 5 (by decide)
        clear hv hx
        refine wpOp_step rfl (fun K hK=>?_)
        go_simp
        exact hK _ _ ⟨rfl,HJ.out⟩
      · obtain rfl:=Option.some.inj ho.symm
        clear ho
        have d8:fr0.tmps[(47:Nat)]?=some (.pointer (some ⟨Z,1,none⟩)):=hv ⟨8,.data⟩ (by simp) rfl
        have d7:fr0.tmps[(46:Nat)]?=some (.bool true):=hv ⟨7,.guard⟩ (by simp) rfl
        clear hv hx
        refine wpOp_step rfl (fun K hK=>?_)
        go_simp
        exact hK _ _ ⟨rfl,HJ.out⟩
      · obtain rfl:=Option.some.inj ho.symm
        clear ho
        have d7:fr0.tmps[(46:Nat)]?=some (.bool true):=hv ⟨7,.guard⟩ (by simp) rfl
        have x3:fr0.tmps[(3:Nat)]?=some (.pointer (some ⟨Y,0,none⟩)):=hx 3 (by decide)
        clear hv hx
        refine wpOp_step rfl (fun K hK=>?_)
        go_simp
        exact hK _ _ ⟨rfl,HJ.out⟩
      · obtain rfl:=Option.some.inj ho.symm
        clear ho
        have d10:fr0.tmps[(49:Nat)]?=some (.pointer (some ⟨Y,4,none⟩)):=hv ⟨10,.data⟩ (by simp) rfl
        have d7:fr0.tmps[(46:Nat)]?=some (.bool true):=hv ⟨7,.guard⟩ (by simp) rfl
        clear hv hx
        refine wpOp_step rfl (fun K hK=>?_)
        go_simp
        exact hK _ _ ⟨rfl,HJ.out⟩
      · obtain rfl:=Option.some.inj ho.symm
        clear ho
        have d7:fr0.tmps[(46:Nat)]?=some (.bool true):=hv ⟨7,.guard⟩ (by simp) rfl
        have x2:fr0.tmps[(2:Nat)]?=some (.pointer (some ⟨X,0,none⟩)):=hx 2 (by decide)
        clear hv hx
        refine wpOp_step rfl (fun K hK=>?_)
        go_simp
        exact hK _ _ ⟨rfl,HJ.out⟩
      · obtain rfl:=Option.some.inj ho.symm
        clear ho
        have d12:fr0.tmps[(51:Nat)]?=some (.pointer (some ⟨X,2,none⟩)):=hv ⟨12,.data⟩ (by simp) rfl
        have d7:fr0.tmps[(46:Nat)]?=some (.bool true):=hv ⟨7,.guard⟩ (by simp) rfl
        clear hv hx
        refine wpOp_step rfl (fun K hK=>?_)
        go_simp
        exact hK _ _ ⟨rfl,HJ.out⟩
      · obtain rfl:=Option.some.inj ho.symm
        clear ho
        have d13:fr0.tmps[(52:Nat)]?=some (.slice aa g.ar.length ca):=hv ⟨13,.data⟩ (by simp) rfl
        have d7:fr0.tmps[(46:Nat)]?=some (.bool true):=hv ⟨7,.guard⟩ (by simp) rfl
        clear hv hx
        refine wpOp_step rfl (fun K hK=>?_)
        go_simp
        exact hK _ _ ⟨rfl,HJ.out⟩
      · obtain rfl:=Option.some.inj ho.symm
        clear ho
        have d9:fr0.tmps[(48:Nat)]?=some (.bool bA):=hv ⟨9,.data⟩ (by simp) rfl
        have d11:fr0.tmps[(50:Nat)]?=some (.int .i64 e.arr):=hv ⟨11,.data⟩ (by simp) rfl
        have d14:fr0.tmps[(53:Nat)]?=some (.int .i64 (g.ar.length:Int)):=hv ⟨14,.data⟩ (by simp) rfl
        have d7:fr0.tmps[(46:Nat)]?=some (.bool true):=hv ⟨7,.guard⟩ (by simp) rfl
        clear hv hx
        refine wpOp_step rfl (fun K hK=>?_)
        go_simp
        refine (HPA _).mono ?_
        rintro r w3 ⟨rfl,rfl⟩
        exact hK _ _ ⟨rfl,HJ.out⟩
      · obtain rfl:=Option.some.inj ho.symm
        clear ho
        have d7:fr0.tmps[(46:Nat)]?=some (.bool true):=hv ⟨7,.data⟩ (by simp) rfl
        have d15:fr0.tmps[(54:Nat)]?=some (.bool false):=hv ⟨15,.data⟩ (by simp) rfl
        clear hv hx
        refine wpOp_step rfl (fun K hK=>?_)
        go_simp
        exact hK _ _ ⟨rfl,HJ.out⟩
      · obtain rfl:=Option.some.inj ho.symm
        clear ho
        have d16:fr0.tmps[(55:Nat)]?=some (.bool false):=hv ⟨16,.data⟩ (by simp) rfl
        clear hv hx
        refine wpOp_step rfl (fun K hK=>?_)
        go_simp
        exact hK _ _ ⟨rfl,HJ.out⟩
      · obtain rfl:=Option.some.inj ho.symm
        clear ho
        have d17:fr0.tmps[(56:Nat)]?=some (.bool false):=hv ⟨17,.guard⟩ (by simp) rfl
        have x5:fr0.tmps[(5:Nat)]?=some (.pointer (some ⟨Z,0,none⟩)):=hx 5 (by decide)
        clear hv hx
        refine wpOp_step rfl (fun K hK=>?_)
        go_simp
        exact hK _ _ ⟨rfl,HJ.out⟩
      · obtain rfl:=Option.some.inj ho.symm
        clear ho
        have d18:fr0.tmps[(57:Nat)]?=some (undef):=hv ⟨18,.data⟩ (by simp) rfl
        have d17:fr0.tmps[(56:Nat)]?=some (.bool false):=hv ⟨17,.guard⟩ (by simp) rfl
        clear hv hx
        refine wpOp_step rfl (fun K hK=>?_)
        go_simp
        exact hK _ _ ⟨rfl,HJ.out⟩
      · obtain rfl:=Option.some.inj ho.symm
        clear ho
        have d17:fr0.tmps[(56:Nat)]?=some (.bool false):=hv ⟨17,.guard⟩ (by simp) rfl
        have x3:fr0.tmps[(3:Nat)]?=some (.pointer (some ⟨Y,0,none⟩)):=hx 3 (by decide)
        clear hv hx
        refine wpOp_step rfl (fun K hK=>?_)
        go_simp
        exact hK _ _ ⟨rfl,HJ.out⟩
      · obtain rfl:=Option.some.inj ho.symm
        clear ho
        have d20:fr0.tmps[(59:Nat)]?=some (undef):=hv ⟨20,.data⟩ (by simp) rfl
        have d17:fr0.tmps[(56:Nat)]?=some (.bool false):=hv ⟨17,.guard⟩ (by simp) rfl
        clear hv hx
        refine wpOp_step rfl (fun K hK=>?_)
        go_simp
        exact hK _ _ ⟨rfl,HJ.out⟩
      · obtain rfl:=Option.some.inj ho.symm
        clear ho
        have d19:fr0.tmps[(58:Nat)]?=some (undef):=hv ⟨19,.data⟩ (by simp) rfl
        have d21:fr0.tmps[(60:Nat)]?=some (undef):=hv ⟨21,.data⟩ (by simp) rfl
        have d17:fr0.tmps[(56:Nat)]?=some (.bool false):=hv ⟨17,.guard⟩ (by simp) rfl
        clear hv hx
        refine wpOp_step rfl (fun K hK=>?_)
        go_simp
        exact hK _ _ ⟨rfl,HJ.out⟩
      · obtain rfl:=Option.some.inj ho.symm
        clear ho
        have d17:fr0.tmps[(56:Nat)]?=some (.bool false):=hv ⟨17,.data⟩ (by simp) rfl
        have d22:fr0.tmps[(61:Nat)]?=some (undef):=hv ⟨22,.data⟩ (by simp) rfl
        clear hv hx
        refine wpOp_step rfl (fun K hK=>?_)
        go_simp
        exact hK _ _ ⟨rfl,HJ.out⟩
      · obtain rfl:=Option.some.inj ho.symm
        clear ho
        have d23:fr0.tmps[(62:Nat)]?=some (.bool false):=hv ⟨23,.data⟩ (by simp) rfl
        clear hv hx
        refine wpOp_step rfl (fun K hK=>?_)
        go_simp
        exact hK _ _ ⟨rfl,HJ.out⟩
     case he =>
      intro w' hJ
      simp only [putF,valsAt,Nat.reduceAdd,Nat.zero_add,List.getD_cons_zero,List.getD_cons_succ,Act.put,List.setIfInBounds_toArray,List.set_cons_succ,List.set_cons_zero]
      go_wp2_with fail
      go_meet
      exact ⟨by rw [← hNB];rfl,hJ⟩
   · refine wp_region_any (by kernel_rfl) ?_
     refine wpAny_vals [39,40,41,42,43,44,45,46,47,48,49,50,51,52,53,54,55,56,57,58,59,60,61,62,7] [.pointer (some ⟨Z,0,none⟩),.bool bD,.pointer (some ⟨Y,3,none⟩),.int .i64 e.dst,.agg #[.slice av g.vs.length cv,.int .i64 g.tmp,.slice aa g.ar.length ca,.int .i64 g.pts,.int .i64 g.ext,.slice ae g.es.length ce],.int .i64 NV,.bool true,.bool true,.pointer (some ⟨Z,1,none⟩),.bool bA,.pointer (some ⟨Y,4,none⟩),.int .i64 e.arr,.pointer (some ⟨X,2,none⟩),.slice aa g.ar.length ca,.int .i64 (g.ar.length:Int),.bool true,.bool true,.bool true,.pointer (some ⟨Z,2,none⟩),.bool bO,.pointer (some ⟨Y,5,none⟩),.int .i64 e.op,.bool P3,.bool P3,.bool P3] (fun w'=>Below wa.heap.size wa w') rfl (by kernel_rfl) (by decide) (by kernel_rfl) ?hs ?he ?hj
     case hj=>exact (Below.refl _ _).drew
     case hs =>
      intro i o ho fr0 hv hx w' hJ
      have hi:i<25:=(Array.getElem?_eq_some_iff.1 ho).1
      obtain ⟨c0,c1,c2,c3,c4,c5,c6,c7,c8,c9,c10,c11,-⟩:=KS w' hJ
      have HJ:=zh hJ
      clear hJ
      have hcase:i=0∨i=1∨i=2∨i=3∨i=4∨i=5∨i=6∨i=7∨i=8∨i=9∨i=10∨i=11∨i=12∨i=13∨i=14∨i=15∨i=16∨i=17∨i=18∨i=19∨i=20∨i=21∨i=22∨i=23∨i=24:=by omega
      clear hi
      rcases hcase with rfl | rfl | rfl | rfl | rfl | rfl | rfl | rfl | rfl | rfl | rfl | rfl | rfl | rfl | rfl | rfl | rfl | rfl | rfl | rfl | rfl | rfl | rfl | rfl | rfl
      · obtain rfl:=Option.some.inj ho.symm
        clear ho
        have x5:fr0.tmps[(5:Nat)]?=some (.pointer (some ⟨Z,0,none⟩)):=hx 5 (by decide)
        clear hv hx
        refine wpOp_step rfl (fun K hK=>?_)
        go_simp
        exact hK _ _ ⟨rfl,HJ.out⟩
      · obtain rfl:=Option.some.inj ho.symm
        clear ho
        have d0:fr0.tmps[(39:Nat)]?=some (.pointer (some ⟨Z,0,none⟩)):=hv ⟨0,.data⟩ (by simp) rfl
        clear hv hx
        refine wpOp_step rfl (fun K hK=>?_)
        go_simp
        exact hK _ _ ⟨rfl,HJ.out⟩
      · obtain rfl:=Option.some.inj ho.symm
        clear ho
        have x3:fr0.tmps[(3:Nat)]?=some (.pointer (some ⟨Y,0,none⟩)):=hx 3 (by decide)
        clear hv hx
        refine wpOp_step rfl (fun K hK=>?_)
        go_simp
        exact hK _ _ ⟨rfl,HJ.out⟩
      · obtain rfl:=Option.some.inj ho.symm
        clear ho
        have d2:fr0.tmps[(41:Nat)]?=some (.pointer (some ⟨Y,3,none⟩)):=hv ⟨2,.data⟩ (by simp) rfl
        clear hv hx
        refine wpOp_step rfl (fun K hK=>?_)
        go_simp
        exact hK _ _ ⟨rfl,HJ.out⟩
      · obtain rfl:=Option.some.inj ho.symm
        clear ho
        have x2:fr0.tmps[(2:Nat)]?=some (.pointer (some ⟨X,0,none⟩)):=hx 2 (by decide)
        clear hv hx
        refine wpOp_step rfl (fun K hK=>?_)
        go_simp
        exact hK _ _ ⟨rfl,HJ.out⟩
      · obtain rfl:=Option.some.inj ho.symm
        clear ho
        have d4:fr0.tmps[(43:Nat)]?=some (.agg #[.slice av g.vs.length cv,.int .i64 g.tmp,.slice aa g.ar.length ca,.int .i64 g.pts,.int .i64 g.ext,.slice ae g.es.length ce]):=hv ⟨4,.data⟩ (by simp) rfl
        clear hv hx
        refine wpOp_step rfl (fun K hK=>?_)
        go_simp
        refine (HV _).mono ?_
        rintro r w3 ⟨rfl,hb3⟩
        exact hK _ _ ⟨rfl,HJ.out.trans (hb3.mono HJ.out.size)⟩
      · obtain rfl:=Option.some.inj ho.symm
        clear ho
        have d1:fr0.tmps[(40:Nat)]?=some (.bool bD):=hv ⟨1,.data⟩ (by simp) rfl
        have d3:fr0.tmps[(42:Nat)]?=some (.int .i64 e.dst):=hv ⟨3,.data⟩ (by simp) rfl
        have d5:fr0.tmps[(44:Nat)]?=some (.int .i64 NV):=hv ⟨5,.data⟩ (by simp) rfl
        clear hv hx
        refine wpOp_step rfl (fun K hK=>?_)
        go_simp
        refine (HNV _).mono ?_
        rintro r w3 ⟨rfl,rfl⟩
        exact hK _ _ ⟨rfl,HJ.out⟩
      · obtain rfl:=Option.some.inj ho.symm
        clear ho
        have d6:fr0.tmps[(45:Nat)]?=some (.bool true):=hv ⟨6,.data⟩ (by simp) rfl
        clear hv hx
        refine wpOp_step rfl (fun K hK=>?_)
        go_simp
        exact hK _ _ ⟨rfl,HJ.out⟩
      · obtain rfl:=Option.some.inj ho.symm
        clear ho
        have d7:fr0.tmps[(46:Nat)]?=some (.bool true):=hv ⟨7,.guard⟩ (by simp) rfl
        have x5:fr0.tmps[(5:Nat)]?=some (.pointer (some ⟨Z,0,none⟩)):=hx 5 (by decide)
        clear hv hx
        refine wpOp_step rfl (fun K hK=>?_)
        go_simp
        exact hK _ _ ⟨rfl,HJ.out⟩
      · obtain rfl:=Option.some.inj ho.symm
        clear ho
        have d8:fr0.tmps[(47:Nat)]?=some (.pointer (some ⟨Z,1,none⟩)):=hv ⟨8,.data⟩ (by simp) rfl
        have d7:fr0.tmps[(46:Nat)]?=some (.bool true):=hv ⟨7,.guard⟩ (by simp) rfl
        clear hv hx
        refine wpOp_step rfl (fun K hK=>?_)
        go_simp
        exact hK _ _ ⟨rfl,HJ.out⟩
      · obtain rfl:=Option.some.inj ho.symm
        clear ho
        have d7:fr0.tmps[(46:Nat)]?=some (.bool true):=hv ⟨7,.guard⟩ (by simp) rfl
        have x3:fr0.tmps[(3:Nat)]?=some (.pointer (some ⟨Y,0,none⟩)):=hx 3 (by decide)
        clear hv hx
        refine wpOp_step rfl (fun K hK=>?_)
        go_simp
        exact hK _ _ ⟨rfl,HJ.out⟩
      · obtain rfl:=Option.some.inj ho.symm
        clear ho
        have d10:fr0.tmps[(49:Nat)]?=some (.pointer (some ⟨Y,4,none⟩)):=hv ⟨10,.data⟩ (by simp) rfl
        have d7:fr0.tmps[(46:Nat)]?=some (.bool true):=hv ⟨7,.guard⟩ (by simp) rfl
        clear hv hx
        refine wpOp_step rfl (fun K hK=>?_)
        go_simp
        exact hK _ _ ⟨rfl,HJ.out⟩
      · obtain rfl:=Option.some.inj ho.symm
        clear ho
        have d7:fr0.tmps[(46:Nat)]?=some (.bool true):=hv ⟨7,.guard⟩ (by simp) rfl
        have x2:fr0.tmps[(2:Nat)]?=some (.pointer (some ⟨X,0,none⟩)):=hx 2 (by decide)
        clear hv hx
        refine wpOp_step rfl (fun K hK=>?_)
        go_simp
        exact hK _ _ ⟨rfl,HJ.out⟩
      · obtain rfl:=Option.some.inj ho.symm
        clear ho
        have d12:fr0.tmps[(51:Nat)]?=some (.pointer (some ⟨X,2,none⟩)):=hv ⟨12,.data⟩ (by simp) rfl
        have d7:fr0.tmps[(46:Nat)]?=some (.bool true):=hv ⟨7,.guard⟩ (by simp) rfl
        clear hv hx
        refine wpOp_step rfl (fun K hK=>?_)
        go_simp
        exact hK _ _ ⟨rfl,HJ.out⟩
      · obtain rfl:=Option.some.inj ho.symm
        clear ho
        have d13:fr0.tmps[(52:Nat)]?=some (.slice aa g.ar.length ca):=hv ⟨13,.data⟩ (by simp) rfl
        have d7:fr0.tmps[(46:Nat)]?=some (.bool true):=hv ⟨7,.guard⟩ (by simp) rfl
        clear hv hx
        refine wpOp_step rfl (fun K hK=>?_)
        go_simp
        exact hK _ _ ⟨rfl,HJ.out⟩
      · obtain rfl:=Option.some.inj ho.symm
        clear ho
        have d9:fr0.tmps[(48:Nat)]?=some (.bool bA):=hv ⟨9,.data⟩ (by simp) rfl
        have d11:fr0.tmps[(50:Nat)]?=some (.int .i64 e.arr):=hv ⟨11,.data⟩ (by simp) rfl
        have d14:fr0.tmps[(53:Nat)]?=some (.int .i64 (g.ar.length:Int)):=hv ⟨14,.data⟩ (by simp) rfl
        have d7:fr0.tmps[(46:Nat)]?=some (.bool true):=hv ⟨7,.guard⟩ (by simp) rfl
        clear hv hx
        refine wpOp_step rfl (fun K hK=>?_)
        go_simp
        refine (HPA _).mono ?_
        rintro r w3 ⟨rfl,rfl⟩
        exact hK _ _ ⟨rfl,HJ.out⟩
      · obtain rfl:=Option.some.inj ho.symm
        clear ho
        have d7:fr0.tmps[(46:Nat)]?=some (.bool true):=hv ⟨7,.data⟩ (by simp) rfl
        have d15:fr0.tmps[(54:Nat)]?=some (.bool true):=hv ⟨15,.data⟩ (by simp) rfl
        clear hv hx
        refine wpOp_step rfl (fun K hK=>?_)
        go_simp
        exact hK _ _ ⟨rfl,HJ.out⟩
      · obtain rfl:=Option.some.inj ho.symm
        clear ho
        have d16:fr0.tmps[(55:Nat)]?=some (.bool true):=hv ⟨16,.data⟩ (by simp) rfl
        clear hv hx
        refine wpOp_step rfl (fun K hK=>?_)
        go_simp
        exact hK _ _ ⟨rfl,HJ.out⟩
      · obtain rfl:=Option.some.inj ho.symm
        clear ho
        have d17:fr0.tmps[(56:Nat)]?=some (.bool true):=hv ⟨17,.guard⟩ (by simp) rfl
        have x5:fr0.tmps[(5:Nat)]?=some (.pointer (some ⟨Z,0,none⟩)):=hx 5 (by decide)
        clear hv hx
        refine wpOp_step rfl (fun K hK=>?_)
        go_simp
        exact hK _ _ ⟨rfl,HJ.out⟩
      · obtain rfl:=Option.some.inj ho.symm
        clear ho
        have d18:fr0.tmps[(57:Nat)]?=some (.pointer (some ⟨Z,2,none⟩)):=hv ⟨18,.data⟩ (by simp) rfl
        have d17:fr0.tmps[(56:Nat)]?=some (.bool true):=hv ⟨17,.guard⟩ (by simp) rfl
        clear hv hx
        refine wpOp_step rfl (fun K hK=>?_)
        go_simp
        exact hK _ _ ⟨rfl,HJ.out⟩
      · obtain rfl:=Option.some.inj ho.symm
        clear ho
        have d17:fr0.tmps[(56:Nat)]?=some (.bool true):=hv ⟨17,.guard⟩ (by simp) rfl
        have x3:fr0.tmps[(3:Nat)]?=some (.pointer (some ⟨Y,0,none⟩)):=hx 3 (by decide)
        clear hv hx
        refine wpOp_step rfl (fun K hK=>?_)
        go_simp
        exact hK _ _ ⟨rfl,HJ.out⟩
      · obtain rfl:=Option.some.inj ho.symm
        clear ho
        have d20:fr0.tmps[(59:Nat)]?=some (.pointer (some ⟨Y,5,none⟩)):=hv ⟨20,.data⟩ (by simp) rfl
        have d17:fr0.tmps[(56:Nat)]?=some (.bool true):=hv ⟨17,.guard⟩ (by simp) rfl
        clear hv hx
        refine wpOp_step rfl (fun K hK=>?_)
        go_simp
        exact hK _ _ ⟨rfl,HJ.out⟩
      · obtain rfl:=Option.some.inj ho.symm
        clear ho
        have d19:fr0.tmps[(58:Nat)]?=some (.bool bO):=hv ⟨19,.data⟩ (by simp) rfl
        have d21:fr0.tmps[(60:Nat)]?=some (.int .i64 e.op):=hv ⟨21,.data⟩ (by simp) rfl
        have d17:fr0.tmps[(56:Nat)]?=some (.bool true):=hv ⟨17,.guard⟩ (by simp) rfl
        clear hv hx
        refine wpOp_step rfl (fun K hK=>?_)
        go_simp
        refine (HCM _).mono ?_
        rintro r w3 ⟨rfl,rfl⟩
        exact hK _ _ ⟨rfl,HJ.out⟩
      · obtain rfl:=Option.some.inj ho.symm
        clear ho
        have d17:fr0.tmps[(56:Nat)]?=some (.bool true):=hv ⟨17,.data⟩ (by simp) rfl
        have d22:fr0.tmps[(61:Nat)]?=some (.bool P3):=hv ⟨22,.data⟩ (by simp) rfl
        clear hv hx
        refine wpOp_step rfl (fun K hK=>?_)
        go_simp
        exact hK _ _ ⟨rfl,HJ.out⟩
      · obtain rfl:=Option.some.inj ho.symm
        clear ho
        have d23:fr0.tmps[(62:Nat)]?=some (.bool P3):=hv ⟨23,.data⟩ (by simp) rfl
        clear hv hx
        refine wpOp_step rfl (fun K hK=>?_)
        go_simp
        exact hK _ _ ⟨rfl,HJ.out⟩
     case he =>
      intro w' hJ
      simp only [putF,valsAt,Nat.reduceAdd,Nat.zero_add,List.getD_cons_zero,List.getD_cons_succ,Act.put,List.setIfInBounds_toArray,List.set_cons_succ,List.set_cons_zero]
      go_wp2_with fail
      go_meet
      exact ⟨by rw [← hNB];rfl,hJ⟩
  case rest =>
   obtain ⟨rfl,hb5⟩:=hcut
   have xb:=H2.out.2.1 _ hb5
   have yb:=H2.out.2.2.1 _ hb5
   have zb:=H2.out.2.2.2 _ hb5
   have z3:wc.cell? ⟨Z,3,none⟩=some (.bool b1):=zb.cell 3
   have y6:wc.cell? ⟨Y,6,none⟩=some (.int .i64 e.av):=yb.cell 6
   have y7:wc.cell? ⟨Y,7,none⟩=some (.int .i64 e.an):=yb.cell 7
   have x0:wc.cell? ⟨X,0,none⟩=some (.slice av g.vs.length cv):=xb.cell 0
   have x1:wc.cell? ⟨X,1,none⟩=some (.int .i64 g.tmp):=xb.cell 1
   have x2:wc.cell? ⟨X,2,none⟩=some (.slice aa g.ar.length ca):=xb.cell 2
   have x3:wc.cell? ⟨X,3,none⟩=some (.int .i64 g.pts):=xb.cell 3
   have x4:wc.cell? ⟨X,4,none⟩=some (.int .i64 g.ext):=xb.cell 4
   have x5:wc.cell? ⟨X,5,none⟩=some (.slice ae g.es.length ce):=xb.cell 5
   have H5:=zh (za (bel H2.out.1 hb5) (za xb (za yb zb)))
   clear hb5 hNB KS xb yb zb HV HNV HPA HCM s0 s1 s2 s3 s4 s5 s6 s7 s8 s9 s10 s11
   have hcase:EB=false∨(EB=true∧NB=false)∨(EB=true∧NB=true∧O1=false)∨(EB=true∧NB=true∧O1=true):=by cases EB<;>cases NB<;>cases O1<;>simp
   rcases hcase with rfl | ⟨rfl,rfl⟩ | ⟨rfl,rfl,rfl⟩ | ⟨rfl,rfl,rfl⟩
   · go_wp2_with fail
     go_ret
     exact ⟨rfl,H5.out.1⟩
   · go_wp2_with fail
     go_ret
     exact ⟨rfl,H5.out.1⟩
   · go_wp2_with (first | (go_at_call 126;(with_reducible refine (HO1.out _).mono ?_);rintro r w6 ⟨rfl,hb6⟩) | fail)
     go_ret
     exact ⟨rfl,bel H5.out.1 hb6⟩
   · go_wp2_with (first | (go_at_call 126;(with_reducible refine (HO1.out _).mono ?_);rintro r w6 ⟨rfl,hb6⟩;have xb:=H5.out.2.1.next hb6;have yb:=H5.out.2.2.1.next hb6;have z4:w6.cell? ⟨Z,4,none⟩=some (.bool b2):=(H5.out.2.2.2.next hb6).cell 4;have y8:w6.cell? ⟨Y,8,none⟩=some (.int .i64 e.bv):=yb.cell 8;have y9:w6.cell? ⟨Y,9,none⟩=some (.int .i64 e.bn):=yb.cell 9;have v0:w6.cell? ⟨X,0,none⟩=some (.slice av g.vs.length cv):=xb.cell 0;have v1:w6.cell? ⟨X,1,none⟩=some (.int .i64 g.tmp):=xb.cell 1;have v2:w6.cell? ⟨X,2,none⟩=some (.slice aa g.ar.length ca):=xb.cell 2;have v3:w6.cell? ⟨X,3,none⟩=some (.int .i64 g.pts):=xb.cell 3;have v4:w6.cell? ⟨X,4,none⟩=some (.int .i64 g.ext):=xb.cell 4;have v5:w6.cell? ⟨X,5,none⟩=some (.slice ae g.es.length ce):=xb.cell 5;have HB6:=zh hb6;clear hb6 xb yb x0 x1 x2 x3 x4 x5 y6 y7 z3) | (go_at_call 126;(with_reducible refine (HO2.out _).mono ?_);rintro r w7 ⟨rfl,hb7⟩) | fail)
     go_ret
     exact ⟨rfl,bel H5.out.1 (bel HB6.out hb7)⟩
end Go.Proofs.YtmohmggnjldddaaGreatDoor
