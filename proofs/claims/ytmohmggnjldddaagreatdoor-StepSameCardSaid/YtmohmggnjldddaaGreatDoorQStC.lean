/-
  Package step's deeds (reckoned ones, copies, inputs, places): proved is what each tells.
-/
import Derived.Test.YtmohmggnjldddaaGreatDoorQStB
import Derived.Deep.RegionHeld3
import Derived.Test.YtmohmggnjldddaaGreatDoorQAbb
namespace Go.Proofs.YtmohmggnjldddaaGreatDoor
set_option maxHeartbeats 8000000
set_option maxRecDepth 100000
open Go Go.RowKit Go.Maps
def cellOf (w:World) (a:Addr):Value:=(w.cell? a).getD undef
theorem sdiv_num (a b:Int):divV a b=.tuple #[.int .i64 (numK 9 a b).1,.int .i64 (numK 9 a b).2]:=by
 unfold divV
 by_cases hb:b=0
 · rw [if_pos hb];simp [numK,hb]
 · rw [if_neg hb,stell_num];simp [numK,hb]
theorem srem_num (a b:Int):remV a b=.tuple #[.int .i64 (numK 10 a b).1,.int .i64 (numK 10 a b).2]:=by
 unfold remV
 by_cases hb:b=0
 · rw [if_pos hb];simp [numK,hb]
 · rw [if_neg hb]
   by_cases hc:a = -9223372036854775808∧b = -1
   · rw [if_pos hc];simp [numK,hc]
   · rw [if_neg hc];simp [numK,hb,hc]
theorem dd_num {U:Nat→Value} {vv:Value} {e:Ed} {s:Rn} (h:3≤e.kd∧e.kd≤8):ddOf U vv e s=(if (numK (e.kd+2) (edVa e s) (edVb e s)).2=0 then ddV 0 (plcA vv e.dst.toNat) (numK (e.kd+2) (edVa e s) (edVb e s)).1 false false 0 false else ddV (numK (e.kd+2) (edVa e s) (edVb e s)).2 none 0 false false 0 false):=by
 unfold ddOf
 rw [if_neg (by omega),if_pos h]
theorem dd_form (U:Nat→Value) (vv:Value) (e:Ed) (s:Rn):∃ wr pl num tl inp en hd,ddOf U vv e s=ddV wr pl num tl inp en hd:=by
 unfold ddOf
 split;· exact ⟨_,_,_,_,_,_,_,rfl⟩
 split;· split<;>exact ⟨_,_,_,_,_,_,_,rfl⟩
 split;· exact ⟨_,_,_,_,_,_,_,rfl⟩
 split;· split<;>exact ⟨_,_,_,_,_,_,_,rfl⟩
 split;· split<;>exact ⟨_,_,_,_,_,_,_,rfl⟩
 split;· exact ⟨_,_,_,_,_,_,_,rfl⟩
 split;· exact ⟨_,_,_,_,_,_,_,rfl⟩
 exact ⟨_,_,_,_,_,_,_,rfl⟩
structure Fdm (w0:World) (X Y R:Nat) (vv va vi:Value) (e:Ed) (w':World):Prop where
 x:Blk w' X #[vv,va,vi] 91
 y:Blk w' Y (edC e) 40
 r:∃ cs:Array Value,Blk w' R cs 166∧cs.size=7
 b:Below w0.heap.size w0 w'
 o:w0.heap.size≤X∧X<R∧Y<R∧X≠Y
theorem Fdm.drew {w0 w':World} {X Y R:Nat} {vv va vi:Value} {e:Ed} (h:Fdm w0 X Y R vv va vi e w'):Fdm w0 X Y R vv va vi e w'.drew:=⟨h.x,h.y,h.r,h.b.drew,h.o⟩
theorem Fdm.next {w0 w' w2:World} {X Y R:Nat} {vv va vi:Value} {e:Ed} (h:Fdm w0 X Y R vv va vi e w') (hb:Below w'.heap.size w' w2):Fdm w0 X Y R vv va vi e w2:=⟨h.x.next hb,h.y.next hb,by obtain ⟨cs,h1,h2⟩:=h.r;exact ⟨cs,h1.next hb,h2⟩,h.b.trans (hb.mono h.b.size),h.o⟩
theorem Fdm.set {w0 w':World} {X Y R:Nat} {vv va vi:Value} {e:Ed} (h:Fdm w0 X Y R vv va vi e w') (j:Nat) (u:Value):Fdm w0 X Y R vv va vi e (w'.setCell ⟨R,j,none⟩ u):=⟨h.x.other (by show X≠R;have:=h.o;omega) u,h.y.other (by show Y≠R;have:=h.o;omega) u,by obtain ⟨cs,h1,h2⟩:=h.r;exact ⟨_,h1.set j u,by rw [Array.size_setIfInBounds];exact h2⟩,h.b.setCell (by show w0.heap.size≤R;have:=h.o;omega) u,h.o⟩
theorem Fdm.free {w0 w':World} {X Y R:Nat} {vv va vi:Value} {e:Ed} (h:Fdm w0 X Y R vv va vi e w') (j:Nat):w'.frozen? ⟨R,j,none⟩=false:=by obtain ⟨cs,h1,_⟩:=h.r;exact h1.free j
theorem Fdm.any {w0 w':World} {X Y R:Nat} {vv va vi:Value} {e:Ed} (h:Fdm w0 X Y R vv va vi e w') {j:Nat} (hj:j<7):w'.cell? ⟨R,j,none⟩=some (cellOf w' ⟨R,j,none⟩):=by
 obtain ⟨cs,h1,h2⟩:=h.r
 have h3:=h1.cell j
 rw [Array.getElem?_eq_getElem (by omega)] at h3
 unfold cellOf
 rw [h3]
 rfl
theorem fdm_of {w W3:World} {X Y R:Nat} {vv va vi:Value} {e:Ed} {cs:Array Value} (hx:Blk W3 X #[vv,va,vi] 91) (hy:Blk W3 Y (edC e) 40) (hr:Blk W3 R cs 166) (h7:cs.size=7) (hb:Below w.heap.size w W3) (h1:w.heap.size≤X) (h2:X<R) (h3:Y<R) (h4:X+1=Y):Fdm w X Y R vv va vi e W3:=⟨hx,hy,⟨cs,hr,h7⟩,hb,h1,h2,h3,by omega⟩
theorem Fdm.vs {w0 w':World} {X Y R:Nat} {vv va vi:Value} {e:Ed} {s:Rn} (h:Fdm w0 X Y R vv va vi e w') (hs:VsAt w0 s vv va vi):VsAt w' s vv va vi:=hs.next h.b
theorem fdm_end {w0 w':World} {X Y R:Nat} {vv va vi:Value} {e:Ed} (h:Fdm w0 X Y R vv va vi e w') (v0 v1 v2 v3 v4 v5 v6:Value):Blk (dput7 w' R v0 v1 v2 v3 v4 v5 v6) R #[v0,v1,v2,v3,v4,v5,v6] 166∧Below w0.heap.size w0 (dput7 w' R v0 v1 v2 v3 v4 v5 v6):=by
 obtain ⟨cs,h1,h2⟩:=h.r
 obtain ⟨a0,a1,a2,a3,a4,a5,a6,rfl⟩:∃ a0 a1 a2 a3 a4 a5 a6,cs=#[a0,a1,a2,a3,a4,a5,a6]:=by
  refine ⟨cs[0],cs[1],cs[2],cs[3],cs[4],cs[5],cs[6],?_⟩
  apply Array.ext (by simp [h2])
  intro i hi hi2
  have:i=0∨i=1∨i=2∨i=3∨i=4∨i=5∨i=6:=by omega
  rcases this with rfl | rfl | rfl | rfl | rfl | rfl | rfl<;>rfl
 exact ⟨dput7_blk h1 _ _ _ _ _ _ _,h.b.trans ((dput7_only w' R _ _ _ _ _ _ _).old (by have:=h.o;omega) h.b.size)⟩
theorem streckon_add (vv va vi:Value) (s:Rn) (w:World) (hs:VsAt w s vv va vi) (e:Ed) (he:EdV s e) (hk:e.kd=4) :
    Calls Tryz.prog 130 #[vsV vv va vi,edgeV e,.func (.func 131) #[] #[]] w (DeedTo w e s vv va):=by
 obtain ⟨W1,X,W2,Y,W3,R,hE,hx,hy,hr,hb,hwX,hXR,hYR,-⟩:=st3 w #[vv,va,vi] (edC e) dd0 91 40 166
 have hf:=fdm_of hx hy hr rfl hb hwX hXR hYR hE.2.2.2.1
 have xc:=hx.cell
 have yc:=hy.cell
 have rc:=hr.cell
 have rf:=hr.free
 have HF:=zh hf
 have HE:=zh hE
 clear hx hy hr hb hE hwX hXR hYR hf
 have HVa:=zh (fun W (hb:Fdm w X Y R vv va vi e W)=>stvalue_any vv va vi s W (hb.vs hs).v e.av e.an (he.a (by omega)))
 have HVb:=zh (fun W (hb:Fdm w X Y R vv va vi e W)=>stvalue_any vv va vi s W (hb.vs hs).v e.bv e.bn (he.b (by omega)))
 have HG:=zh (fun W (hb:Fdm w X Y R vv va vi e W) num wr=>stgive_any vv va vi s W (hb.vs hs).v e num wr (fun _=>he.dst (by omega)))
 obtain ⟨A,hA⟩:∃ x,edVa e s=x:=⟨_,rfl⟩
 obtain ⟨B,hB⟩:∃ x,edVb e s=x:=⟨_,rfl⟩
 have hfa:fitsI A:=by rw [← hA];exact valO_fits hs.fv he.fa
 have hfb:fitsI B:=by rw [← hB];exact valO_fits hs.fv he.fb
 have HN:=zh (fun W=>by
  have h:=nadd A B hfa hfb W
  rw [show tellV (A+B)=.tuple #[.int .i64 (numK 6 A B).1,.int .i64 (numK 6 A B).2] by rw [stell_num];rfl] at h
  exact h)
 have hdd:ddOf (rowU w va) vv e s=if (numK 6 A B).2=0 then ddV 0 (plcA vv e.dst.toNat) (numK 6 A B).1 false false 0 false else ddV (numK 6 A B).2 none 0 false false 0 false:=by
  unfold ddOf
  rw [if_neg (by omega),if_pos (by omega),hA,hB,show e.kd+2=6 by omega]
 unfold DeedTo
 rw [hdd]
 rw [show valO s e.av e.an=A from hA] at HVa
 rw [show valO s e.bv e.bn=B from hB] at HVb
 obtain ⟨⟨N1,N2⟩,hN⟩:∃ p,numK 6 A B=p:=⟨_,rfl⟩
 simp only [hN] at HN ⊢
 obtain ⟨PA,hPA⟩:∃ x,plcA vv e.dst.toNat=x:=⟨_,rfl⟩
 simp only [hPA] at HG ⊢
 obtain ⟨DV,hDV⟩:∃ x,(if N2=0 then ddV 0 PA N1 false false 0 false else ddV N2 none 0 false false 0 false)=x:=⟨_,rfl⟩
 rw [hDV]
 have HDV:=zh hDV
 clear hDV hPA
 clear hfa hfb hA hB hN hdd hk hs he
 have KS:=fun w' (hW:Fdm w X Y R vv va vi e w')=>(⟨hW.x.cell 0,hW.x.cell 1,hW.x.cell 2,hW.y.cell 0,hW.y.cell 1,hW.y.cell 2,hW.y.cell 3,hW.y.cell 4,hW.y.cell 5,hW.y.cell 6,hW.y.cell 7,hW.y.cell 8,hW.y.cell 9⟩:w'.cell? ⟨X,0,none⟩=some vv∧w'.cell? ⟨X,1,none⟩=some va∧w'.cell? ⟨X,2,none⟩=some vi∧w'.cell? ⟨Y,0,none⟩=some (.int .i64 e.fr)∧w'.cell? ⟨Y,1,none⟩=some (.int .i64 e.dt)∧w'.cell? ⟨Y,2,none⟩=some (.int .i64 e.kd)∧w'.cell? ⟨Y,3,none⟩=some (.int .i64 e.dst)∧w'.cell? ⟨Y,4,none⟩=some (.int .i64 e.arr)∧w'.cell? ⟨Y,5,none⟩=some (.int .i64 e.op)∧w'.cell? ⟨Y,6,none⟩=some (.int .i64 e.av)∧w'.cell? ⟨Y,7,none⟩=some (.int .i64 e.an)∧w'.cell? ⟨Y,8,none⟩=some (.int .i64 e.bv)∧w'.cell? ⟨Y,9,none⟩=some (.int .i64 e.bn))
 go_enter Tryz.func130,Tryz.ntmps130
 go_upto_region 1 with fail
 rw [HE.out.1,HE.out.2.1,HE.out.2.2.1,HE.out.2.2.2.1,HE.out.2.2.2.2.1,HE.out.2.2.2.2.2]
 go_cut [7,8] (fun s1 s2 wx=>s1=.int .i64 N1∧s2=.int .i64 N2∧Fdm w X Y R vv va vi e wx)
 case first =>
  go_region_held3 (fun w'=>w'.cell? ⟨X,0,none⟩=some vv∧w'.cell? ⟨X,1,none⟩=some va∧w'.cell? ⟨X,2,none⟩=some vi∧w'.cell? ⟨Y,0,none⟩=some (.int .i64 e.fr)∧w'.cell? ⟨Y,1,none⟩=some (.int .i64 e.dt)∧w'.cell? ⟨Y,2,none⟩=some (.int .i64 e.kd)∧w'.cell? ⟨Y,3,none⟩=some (.int .i64 e.dst)∧w'.cell? ⟨Y,4,none⟩=some (.int .i64 e.arr)∧w'.cell? ⟨Y,5,none⟩=some (.int .i64 e.op)∧w'.cell? ⟨Y,6,none⟩=some (.int .i64 e.av)∧w'.cell? ⟨Y,7,none⟩=some (.int .i64 e.an)∧w'.cell? ⟨Y,8,none⟩=some (.int .i64 e.bv)∧w'.cell? ⟨Y,9,none⟩=some (.int .i64 e.bn))
   ((with_reducible refine KS _ ?_;repeat (with_reducible (first | exact HF.out | refine Fdm.drew ?_ | refine Fdm.set ?_ _ _ | refine Fdm.next ?_ hb4 | refine Fdm.next ?_ hb3 | fail))))
   (first | (go_at_call 100;(first | ((with_reducible refine (HVa.out _ (by repeat (with_reducible (first | exact HF.out | refine Fdm.drew ?_ | refine Fdm.set ?_ _ _ | refine Fdm.next ?_ hb4 | refine Fdm.next ?_ hb3 | fail)))).mono ?_);rintro z w3 ⟨rfl,hb3⟩) | ((with_reducible refine (HVb.out _ (by repeat (with_reducible (first | exact HF.out | refine Fdm.drew ?_ | refine Fdm.set ?_ _ _ | refine Fdm.next ?_ hb4 | refine Fdm.next ?_ hb3 | fail)))).mono ?_);rintro z w4 ⟨rfl,hb4⟩))) | (go_at_call 131;(with_reducible refine (HN.out _).mono ?_);rintro z w5 ⟨rfl,rfl⟩))
  all_goals (go_wp2_with fail;go_meet;exact ⟨rfl,rfl,(by repeat (with_reducible (first | exact HF.out | refine Fdm.drew ?_ | refine Fdm.set ?_ _ _ | refine Fdm.next ?_ hb4 | refine Fdm.next ?_ hb3 | fail)))⟩)
 case rest =>
  obtain ⟨rfl,rfl,hf⟩:=hcut
  have HFL:=zh hf
  have hg:=HG.out wc hf N1 N2
  clear xc yc rc rf KS
  have xc:=hf.x.cell
  have yc:=hf.y.cell
  have hdv:=HDV.out
  by_cases hz:N2=0
  · rw [if_pos hz] at hg hdv
    subst hz
    have HGG:=zh hg
    have HDW:=zh hdv
    clear hg hdv HDV hf HG
    go_wp2_with (first | (go_at_call 128;(with_reducible refine (HGG.out).mono ?_);rintro z w6 ⟨rfl,hb6⟩;have HFN:=zh (HFL.out.next hb6);have r0:=HFN.out.any (j:=0) (by decide);have r1:=HFN.out.any (j:=1) (by decide);have r2:=HFN.out.any (j:=2) (by decide);have r3:=HFN.out.any (j:=3) (by decide);have r4:=HFN.out.any (j:=4) (by decide);have r5:=HFN.out.any (j:=5) (by decide);have r6:=HFN.out.any (j:=6) (by decide);have rf6:=HFN.out.free;clear hb6) | fail)
    refine bodyPost_ret (results_cell_row rfl _ _ R _ (ddC 0 PA N1 false false 0 false) _ _ rfl (fdm_end HFN.out _ _ _ _ _ _ _).1 rfl rfl (by kernel_rfl)) rfl ?_
    exact ⟨by rw [← HDW.out],(fdm_end HFN.out _ _ _ _ _ _ _).2⟩
  · rw [if_neg hz] at hg hdv
    clear hz
    have HGG:=zh hg
    have HDW:=zh hdv
    clear hg hdv HDV hf HG
    go_wp2_with (first | (go_at_call 128;(with_reducible refine (HGG.out).mono ?_);rintro z w6 ⟨rfl,hb6⟩;have HFN:=zh (HFL.out.next hb6);have r0:=HFN.out.any (j:=0) (by decide);have r1:=HFN.out.any (j:=1) (by decide);have r2:=HFN.out.any (j:=2) (by decide);have r3:=HFN.out.any (j:=3) (by decide);have r4:=HFN.out.any (j:=4) (by decide);have r5:=HFN.out.any (j:=5) (by decide);have r6:=HFN.out.any (j:=6) (by decide);have rf6:=HFN.out.free;clear hb6) | fail)
    refine bodyPost_ret (results_cell_row rfl _ _ R _ (ddC N2 none 0 false false 0 false) _ _ rfl (fdm_end HFN.out _ _ _ _ _ _ _).1 rfl rfl (by kernel_rfl)) rfl ?_
    exact ⟨by rw [← HDW.out],(fdm_end HFN.out _ _ _ _ _ _ _).2⟩
theorem streckon_sub (vv va vi:Value) (s:Rn) (w:World) (hs:VsAt w s vv va vi) (e:Ed) (he:EdV s e) (hk:e.kd=5) :
    Calls Tryz.prog 130 #[vsV vv va vi,edgeV e,.func (.func 132) #[] #[]] w (DeedTo w e s vv va):=by
 obtain ⟨W1,X,W2,Y,W3,R,hE,hx,hy,hr,hb,hwX,hXR,hYR,-⟩:=st3 w #[vv,va,vi] (edC e) dd0 91 40 166
 have hf:=fdm_of hx hy hr rfl hb hwX hXR hYR hE.2.2.2.1
 have xc:=hx.cell
 have yc:=hy.cell
 have rc:=hr.cell
 have rf:=hr.free
 have HF:=zh hf
 have HE:=zh hE
 clear hx hy hr hb hE hwX hXR hYR hf
 have HVa:=zh (fun W (hb:Fdm w X Y R vv va vi e W)=>stvalue_any vv va vi s W (hb.vs hs).v e.av e.an (he.a (by omega)))
 have HVb:=zh (fun W (hb:Fdm w X Y R vv va vi e W)=>stvalue_any vv va vi s W (hb.vs hs).v e.bv e.bn (he.b (by omega)))
 have HG:=zh (fun W (hb:Fdm w X Y R vv va vi e W) num wr=>stgive_any vv va vi s W (hb.vs hs).v e num wr (fun _=>he.dst (by omega)))
 obtain ⟨A,hA⟩:∃ x,edVa e s=x:=⟨_,rfl⟩
 obtain ⟨B,hB⟩:∃ x,edVb e s=x:=⟨_,rfl⟩
 have hfa:fitsI A:=by rw [← hA];exact valO_fits hs.fv he.fa
 have hfb:fitsI B:=by rw [← hB];exact valO_fits hs.fv he.fb
 have HN:=zh (fun W=>by
  have h:=nsub A B hfa hfb W
  rw [show tellV (A - B)=.tuple #[.int .i64 (numK 7 A B).1,.int .i64 (numK 7 A B).2] by rw [stell_num];rfl] at h
  exact h)
 have hdd:ddOf (rowU w va) vv e s=if (numK 7 A B).2=0 then ddV 0 (plcA vv e.dst.toNat) (numK 7 A B).1 false false 0 false else ddV (numK 7 A B).2 none 0 false false 0 false:=by
  unfold ddOf
  rw [if_neg (by omega),if_pos (by omega),hA,hB,show e.kd+2=7 by omega]
 unfold DeedTo
 rw [hdd]
 rw [show valO s e.av e.an=A from hA] at HVa
 rw [show valO s e.bv e.bn=B from hB] at HVb
 obtain ⟨⟨N1,N2⟩,hN⟩:∃ p,numK 7 A B=p:=⟨_,rfl⟩
 simp only [hN] at HN ⊢
 obtain ⟨PA,hPA⟩:∃ x,plcA vv e.dst.toNat=x:=⟨_,rfl⟩
 simp only [hPA] at HG ⊢
 obtain ⟨DV,hDV⟩:∃ x,(if N2=0 then ddV 0 PA N1 false false 0 false else ddV N2 none 0 false false 0 false)=x:=⟨_,rfl⟩
 rw [hDV]
 have HDV:=zh hDV
 clear hDV hPA
 clear hfa hfb hA hB hN hdd hk hs he
 have KS:=fun w' (hW:Fdm w X Y R vv va vi e w')=>(⟨hW.x.cell 0,hW.x.cell 1,hW.x.cell 2,hW.y.cell 0,hW.y.cell 1,hW.y.cell 2,hW.y.cell 3,hW.y.cell 4,hW.y.cell 5,hW.y.cell 6,hW.y.cell 7,hW.y.cell 8,hW.y.cell 9⟩:w'.cell? ⟨X,0,none⟩=some vv∧w'.cell? ⟨X,1,none⟩=some va∧w'.cell? ⟨X,2,none⟩=some vi∧w'.cell? ⟨Y,0,none⟩=some (.int .i64 e.fr)∧w'.cell? ⟨Y,1,none⟩=some (.int .i64 e.dt)∧w'.cell? ⟨Y,2,none⟩=some (.int .i64 e.kd)∧w'.cell? ⟨Y,3,none⟩=some (.int .i64 e.dst)∧w'.cell? ⟨Y,4,none⟩=some (.int .i64 e.arr)∧w'.cell? ⟨Y,5,none⟩=some (.int .i64 e.op)∧w'.cell? ⟨Y,6,none⟩=some (.int .i64 e.av)∧w'.cell? ⟨Y,7,none⟩=some (.int .i64 e.an)∧w'.cell? ⟨Y,8,none⟩=some (.int .i64 e.bv)∧w'.cell? ⟨Y,9,none⟩=some (.int .i64 e.bn))
 go_enter Tryz.func130,Tryz.ntmps130
 go_upto_region 1 with fail
 rw [HE.out.1,HE.out.2.1,HE.out.2.2.1,HE.out.2.2.2.1,HE.out.2.2.2.2.1,HE.out.2.2.2.2.2]
 go_cut [7,8] (fun s1 s2 wx=>s1=.int .i64 N1∧s2=.int .i64 N2∧Fdm w X Y R vv va vi e wx)
 case first =>
  go_region_held3 (fun w'=>w'.cell? ⟨X,0,none⟩=some vv∧w'.cell? ⟨X,1,none⟩=some va∧w'.cell? ⟨X,2,none⟩=some vi∧w'.cell? ⟨Y,0,none⟩=some (.int .i64 e.fr)∧w'.cell? ⟨Y,1,none⟩=some (.int .i64 e.dt)∧w'.cell? ⟨Y,2,none⟩=some (.int .i64 e.kd)∧w'.cell? ⟨Y,3,none⟩=some (.int .i64 e.dst)∧w'.cell? ⟨Y,4,none⟩=some (.int .i64 e.arr)∧w'.cell? ⟨Y,5,none⟩=some (.int .i64 e.op)∧w'.cell? ⟨Y,6,none⟩=some (.int .i64 e.av)∧w'.cell? ⟨Y,7,none⟩=some (.int .i64 e.an)∧w'.cell? ⟨Y,8,none⟩=some (.int .i64 e.bv)∧w'.cell? ⟨Y,9,none⟩=some (.int .i64 e.bn))
   ((with_reducible refine KS _ ?_;repeat (with_reducible (first | exact HF.out | refine Fdm.drew ?_ | refine Fdm.set ?_ _ _ | refine Fdm.next ?_ hb4 | refine Fdm.next ?_ hb3 | fail))))
   (first | (go_at_call 100;(first | ((with_reducible refine (HVa.out _ (by repeat (with_reducible (first | exact HF.out | refine Fdm.drew ?_ | refine Fdm.set ?_ _ _ | refine Fdm.next ?_ hb4 | refine Fdm.next ?_ hb3 | fail)))).mono ?_);rintro z w3 ⟨rfl,hb3⟩) | ((with_reducible refine (HVb.out _ (by repeat (with_reducible (first | exact HF.out | refine Fdm.drew ?_ | refine Fdm.set ?_ _ _ | refine Fdm.next ?_ hb4 | refine Fdm.next ?_ hb3 | fail)))).mono ?_);rintro z w4 ⟨rfl,hb4⟩))) | (go_at_call 132;(with_reducible refine (HN.out _).mono ?_);rintro z w5 ⟨rfl,rfl⟩))
  all_goals (go_wp2_with fail;go_meet;exact ⟨rfl,rfl,(by repeat (with_reducible (first | exact HF.out | refine Fdm.drew ?_ | refine Fdm.set ?_ _ _ | refine Fdm.next ?_ hb4 | refine Fdm.next ?_ hb3 | fail)))⟩)
 case rest =>
  obtain ⟨rfl,rfl,hf⟩:=hcut
  have HFL:=zh hf
  have hg:=HG.out wc hf N1 N2
  clear xc yc rc rf KS
  have xc:=hf.x.cell
  have yc:=hf.y.cell
  have hdv:=HDV.out
  by_cases hz:N2=0
  · rw [if_pos hz] at hg hdv
    subst hz
    have HGG:=zh hg
    have HDW:=zh hdv
    clear hg hdv HDV hf HG
    go_wp2_with (first | (go_at_call 128;(with_reducible refine (HGG.out).mono ?_);rintro z w6 ⟨rfl,hb6⟩;have HFN:=zh (HFL.out.next hb6);have r0:=HFN.out.any (j:=0) (by decide);have r1:=HFN.out.any (j:=1) (by decide);have r2:=HFN.out.any (j:=2) (by decide);have r3:=HFN.out.any (j:=3) (by decide);have r4:=HFN.out.any (j:=4) (by decide);have r5:=HFN.out.any (j:=5) (by decide);have r6:=HFN.out.any (j:=6) (by decide);have rf6:=HFN.out.free;clear hb6) | fail)
    refine bodyPost_ret (results_cell_row rfl _ _ R _ (ddC 0 PA N1 false false 0 false) _ _ rfl (fdm_end HFN.out _ _ _ _ _ _ _).1 rfl rfl (by kernel_rfl)) rfl ?_
    exact ⟨by rw [← HDW.out],(fdm_end HFN.out _ _ _ _ _ _ _).2⟩
  · rw [if_neg hz] at hg hdv
    clear hz
    have HGG:=zh hg
    have HDW:=zh hdv
    clear hg hdv HDV hf HG
    go_wp2_with (first | (go_at_call 128;(with_reducible refine (HGG.out).mono ?_);rintro z w6 ⟨rfl,hb6⟩;have HFN:=zh (HFL.out.next hb6);have r0:=HFN.out.any (j:=0) (by decide);have r1:=HFN.out.any (j:=1) (by decide);have r2:=HFN.out.any (j:=2) (by decide);have r3:=HFN.out.any (j:=3) (by decide);have r4:=HFN.out.any (j:=4) (by decide);have r5:=HFN.out.any (j:=5) (by decide);have r6:=HFN.out.any (j:=6) (by decide);have rf6:=HFN.out.free;clear hb6) | fail)
    refine bodyPost_ret (results_cell_row rfl _ _ R _ (ddC N2 none 0 false false 0 false) _ _ rfl (fdm_end HFN.out _ _ _ _ _ _ _).1 rfl rfl (by kernel_rfl)) rfl ?_
    exact ⟨by rw [← HDW.out],(fdm_end HFN.out _ _ _ _ _ _ _).2⟩
theorem streckon_mul (vv va vi:Value) (s:Rn) (w:World) (hs:VsAt w s vv va vi) (e:Ed) (he:EdV s e) (hk:e.kd=6) :
    Calls Tryz.prog 130 #[vsV vv va vi,edgeV e,.func (.func 133) #[] #[]] w (DeedTo w e s vv va):=by
 obtain ⟨W1,X,W2,Y,W3,R,hE,hx,hy,hr,hb,hwX,hXR,hYR,-⟩:=st3 w #[vv,va,vi] (edC e) dd0 91 40 166
 have hf:=fdm_of hx hy hr rfl hb hwX hXR hYR hE.2.2.2.1
 have xc:=hx.cell
 have yc:=hy.cell
 have rc:=hr.cell
 have rf:=hr.free
 have HF:=zh hf
 have HE:=zh hE
 clear hx hy hr hb hE hwX hXR hYR hf
 have HVa:=zh (fun W (hb:Fdm w X Y R vv va vi e W)=>stvalue_any vv va vi s W (hb.vs hs).v e.av e.an (he.a (by omega)))
 have HVb:=zh (fun W (hb:Fdm w X Y R vv va vi e W)=>stvalue_any vv va vi s W (hb.vs hs).v e.bv e.bn (he.b (by omega)))
 have HG:=zh (fun W (hb:Fdm w X Y R vv va vi e W) num wr=>stgive_any vv va vi s W (hb.vs hs).v e num wr (fun _=>he.dst (by omega)))
 obtain ⟨A,hA⟩:∃ x,edVa e s=x:=⟨_,rfl⟩
 obtain ⟨B,hB⟩:∃ x,edVb e s=x:=⟨_,rfl⟩
 have hfa:fitsI A:=by rw [← hA];exact valO_fits hs.fv he.fa
 have hfb:fitsI B:=by rw [← hB];exact valO_fits hs.fv he.fb
 have HN:=zh (fun W=>by
  have h:=nmul A B hfa hfb W
  rw [show tellV (A * B)=.tuple #[.int .i64 (numK 8 A B).1,.int .i64 (numK 8 A B).2] by rw [stell_num];rfl] at h
  exact h)
 have hdd:ddOf (rowU w va) vv e s=if (numK 8 A B).2=0 then ddV 0 (plcA vv e.dst.toNat) (numK 8 A B).1 false false 0 false else ddV (numK 8 A B).2 none 0 false false 0 false:=by
  unfold ddOf
  rw [if_neg (by omega),if_pos (by omega),hA,hB,show e.kd+2=8 by omega]
 unfold DeedTo
 rw [hdd]
 rw [show valO s e.av e.an=A from hA] at HVa
 rw [show valO s e.bv e.bn=B from hB] at HVb
 obtain ⟨⟨N1,N2⟩,hN⟩:∃ p,numK 8 A B=p:=⟨_,rfl⟩
 simp only [hN] at HN ⊢
 obtain ⟨PA,hPA⟩:∃ x,plcA vv e.dst.toNat=x:=⟨_,rfl⟩
 simp only [hPA] at HG ⊢
 obtain ⟨DV,hDV⟩:∃ x,(if N2=0 then ddV 0 PA N1 false false 0 false else ddV N2 none 0 false false 0 false)=x:=⟨_,rfl⟩
 rw [hDV]
 have HDV:=zh hDV
 clear hDV hPA
 clear hfa hfb hA hB hN hdd hk hs he
 have KS:=fun w' (hW:Fdm w X Y R vv va vi e w')=>(⟨hW.x.cell 0,hW.x.cell 1,hW.x.cell 2,hW.y.cell 0,hW.y.cell 1,hW.y.cell 2,hW.y.cell 3,hW.y.cell 4,hW.y.cell 5,hW.y.cell 6,hW.y.cell 7,hW.y.cell 8,hW.y.cell 9⟩:w'.cell? ⟨X,0,none⟩=some vv∧w'.cell? ⟨X,1,none⟩=some va∧w'.cell? ⟨X,2,none⟩=some vi∧w'.cell? ⟨Y,0,none⟩=some (.int .i64 e.fr)∧w'.cell? ⟨Y,1,none⟩=some (.int .i64 e.dt)∧w'.cell? ⟨Y,2,none⟩=some (.int .i64 e.kd)∧w'.cell? ⟨Y,3,none⟩=some (.int .i64 e.dst)∧w'.cell? ⟨Y,4,none⟩=some (.int .i64 e.arr)∧w'.cell? ⟨Y,5,none⟩=some (.int .i64 e.op)∧w'.cell? ⟨Y,6,none⟩=some (.int .i64 e.av)∧w'.cell? ⟨Y,7,none⟩=some (.int .i64 e.an)∧w'.cell? ⟨Y,8,none⟩=some (.int .i64 e.bv)∧w'.cell? ⟨Y,9,none⟩=some (.int .i64 e.bn))
 go_enter Tryz.func130,Tryz.ntmps130
 go_upto_region 1 with fail
 rw [HE.out.1,HE.out.2.1,HE.out.2.2.1,HE.out.2.2.2.1,HE.out.2.2.2.2.1,HE.out.2.2.2.2.2]
 go_cut [7,8] (fun s1 s2 wx=>s1=.int .i64 N1∧s2=.int .i64 N2∧Fdm w X Y R vv va vi e wx)
 case first =>
  go_region_held3 (fun w'=>w'.cell? ⟨X,0,none⟩=some vv∧w'.cell? ⟨X,1,none⟩=some va∧w'.cell? ⟨X,2,none⟩=some vi∧w'.cell? ⟨Y,0,none⟩=some (.int .i64 e.fr)∧w'.cell? ⟨Y,1,none⟩=some (.int .i64 e.dt)∧w'.cell? ⟨Y,2,none⟩=some (.int .i64 e.kd)∧w'.cell? ⟨Y,3,none⟩=some (.int .i64 e.dst)∧w'.cell? ⟨Y,4,none⟩=some (.int .i64 e.arr)∧w'.cell? ⟨Y,5,none⟩=some (.int .i64 e.op)∧w'.cell? ⟨Y,6,none⟩=some (.int .i64 e.av)∧w'.cell? ⟨Y,7,none⟩=some (.int .i64 e.an)∧w'.cell? ⟨Y,8,none⟩=some (.int .i64 e.bv)∧w'.cell? ⟨Y,9,none⟩=some (.int .i64 e.bn))
   ((with_reducible refine KS _ ?_;repeat (with_reducible (first | exact HF.out | refine Fdm.drew ?_ | refine Fdm.set ?_ _ _ | refine Fdm.next ?_ hb4 | refine Fdm.next ?_ hb3 | fail))))
   (first | (go_at_call 100;(first | ((with_reducible refine (HVa.out _ (by repeat (with_reducible (first | exact HF.out | refine Fdm.drew ?_ | refine Fdm.set ?_ _ _ | refine Fdm.next ?_ hb4 | refine Fdm.next ?_ hb3 | fail)))).mono ?_);rintro z w3 ⟨rfl,hb3⟩) | ((with_reducible refine (HVb.out _ (by repeat (with_reducible (first | exact HF.out | refine Fdm.drew ?_ | refine Fdm.set ?_ _ _ | refine Fdm.next ?_ hb4 | refine Fdm.next ?_ hb3 | fail)))).mono ?_);rintro z w4 ⟨rfl,hb4⟩))) | (go_at_call 133;(with_reducible refine (HN.out _).mono ?_);rintro z w5 ⟨rfl,rfl⟩))
  all_goals (go_wp2_with fail;go_meet;exact ⟨rfl,rfl,(by repeat (with_reducible (first | exact HF.out | refine Fdm.drew ?_ | refine Fdm.set ?_ _ _ | refine Fdm.next ?_ hb4 | refine Fdm.next ?_ hb3 | fail)))⟩)
 case rest =>
  obtain ⟨rfl,rfl,hf⟩:=hcut
  have HFL:=zh hf
  have hg:=HG.out wc hf N1 N2
  clear xc yc rc rf KS
  have xc:=hf.x.cell
  have yc:=hf.y.cell
  have hdv:=HDV.out
  by_cases hz:N2=0
  · rw [if_pos hz] at hg hdv
    subst hz
    have HGG:=zh hg
    have HDW:=zh hdv
    clear hg hdv HDV hf HG
    go_wp2_with (first | (go_at_call 128;(with_reducible refine (HGG.out).mono ?_);rintro z w6 ⟨rfl,hb6⟩;have HFN:=zh (HFL.out.next hb6);have r0:=HFN.out.any (j:=0) (by decide);have r1:=HFN.out.any (j:=1) (by decide);have r2:=HFN.out.any (j:=2) (by decide);have r3:=HFN.out.any (j:=3) (by decide);have r4:=HFN.out.any (j:=4) (by decide);have r5:=HFN.out.any (j:=5) (by decide);have r6:=HFN.out.any (j:=6) (by decide);have rf6:=HFN.out.free;clear hb6) | fail)
    refine bodyPost_ret (results_cell_row rfl _ _ R _ (ddC 0 PA N1 false false 0 false) _ _ rfl (fdm_end HFN.out _ _ _ _ _ _ _).1 rfl rfl (by kernel_rfl)) rfl ?_
    exact ⟨by rw [← HDW.out],(fdm_end HFN.out _ _ _ _ _ _ _).2⟩
  · rw [if_neg hz] at hg hdv
    clear hz
    have HGG:=zh hg
    have HDW:=zh hdv
    clear hg hdv HDV hf HG
    go_wp2_with (first | (go_at_call 128;(with_reducible refine (HGG.out).mono ?_);rintro z w6 ⟨rfl,hb6⟩;have HFN:=zh (HFL.out.next hb6);have r0:=HFN.out.any (j:=0) (by decide);have r1:=HFN.out.any (j:=1) (by decide);have r2:=HFN.out.any (j:=2) (by decide);have r3:=HFN.out.any (j:=3) (by decide);have r4:=HFN.out.any (j:=4) (by decide);have r5:=HFN.out.any (j:=5) (by decide);have r6:=HFN.out.any (j:=6) (by decide);have rf6:=HFN.out.free;clear hb6) | fail)
    refine bodyPost_ret (results_cell_row rfl _ _ R _ (ddC N2 none 0 false false 0 false) _ _ rfl (fdm_end HFN.out _ _ _ _ _ _ _).1 rfl rfl (by kernel_rfl)) rfl ?_
    exact ⟨by rw [← HDW.out],(fdm_end HFN.out _ _ _ _ _ _ _).2⟩
theorem streckon_div (vv va vi:Value) (s:Rn) (w:World) (hs:VsAt w s vv va vi) (e:Ed) (he:EdV s e) (hk:e.kd=7) :
    Calls Tryz.prog 130 #[vsV vv va vi,edgeV e,.func (.func 134) #[] #[]] w (DeedTo w e s vv va):=by
 obtain ⟨W1,X,W2,Y,W3,R,hE,hx,hy,hr,hb,hwX,hXR,hYR,-⟩:=st3 w #[vv,va,vi] (edC e) dd0 91 40 166
 have hf:=fdm_of hx hy hr rfl hb hwX hXR hYR hE.2.2.2.1
 have xc:=hx.cell
 have yc:=hy.cell
 have rc:=hr.cell
 have rf:=hr.free
 have HF:=zh hf
 have HE:=zh hE
 clear hx hy hr hb hE hwX hXR hYR hf
 have HVa:=zh (fun W (hb:Fdm w X Y R vv va vi e W)=>stvalue_any vv va vi s W (hb.vs hs).v e.av e.an (he.a (by omega)))
 have HVb:=zh (fun W (hb:Fdm w X Y R vv va vi e W)=>stvalue_any vv va vi s W (hb.vs hs).v e.bv e.bn (he.b (by omega)))
 have HG:=zh (fun W (hb:Fdm w X Y R vv va vi e W) num wr=>stgive_any vv va vi s W (hb.vs hs).v e num wr (fun _=>he.dst (by omega)))
 obtain ⟨A,hA⟩:∃ x,edVa e s=x:=⟨_,rfl⟩
 obtain ⟨B,hB⟩:∃ x,edVb e s=x:=⟨_,rfl⟩
 have hfa:fitsI A:=by rw [← hA];exact valO_fits hs.fv he.fa
 have hfb:fitsI B:=by rw [← hB];exact valO_fits hs.fv he.fb
 have HN:=zh (fun W=>by
  have h:=ndiv A B hfa hfb W
  rw [show divV A B=.tuple #[.int .i64 (numK 9 A B).1,.int .i64 (numK 9 A B).2] by exact sdiv_num A B] at h
  exact h)
 have hdd:ddOf (rowU w va) vv e s=if (numK 9 A B).2=0 then ddV 0 (plcA vv e.dst.toNat) (numK 9 A B).1 false false 0 false else ddV (numK 9 A B).2 none 0 false false 0 false:=by
  unfold ddOf
  rw [if_neg (by omega),if_pos (by omega),hA,hB,show e.kd+2=9 by omega]
 unfold DeedTo
 rw [hdd]
 rw [show valO s e.av e.an=A from hA] at HVa
 rw [show valO s e.bv e.bn=B from hB] at HVb
 obtain ⟨⟨N1,N2⟩,hN⟩:∃ p,numK 9 A B=p:=⟨_,rfl⟩
 simp only [hN] at HN ⊢
 obtain ⟨PA,hPA⟩:∃ x,plcA vv e.dst.toNat=x:=⟨_,rfl⟩
 simp only [hPA] at HG ⊢
 obtain ⟨DV,hDV⟩:∃ x,(if N2=0 then ddV 0 PA N1 false false 0 false else ddV N2 none 0 false false 0 false)=x:=⟨_,rfl⟩
 rw [hDV]
 have HDV:=zh hDV
 clear hDV hPA
 clear hfa hfb hA hB hN hdd hk hs he
 have KS:=fun w' (hW:Fdm w X Y R vv va vi e w')=>(⟨hW.x.cell 0,hW.x.cell 1,hW.x.cell 2,hW.y.cell 0,hW.y.cell 1,hW.y.cell 2,hW.y.cell 3,hW.y.cell 4,hW.y.cell 5,hW.y.cell 6,hW.y.cell 7,hW.y.cell 8,hW.y.cell 9⟩:w'.cell? ⟨X,0,none⟩=some vv∧w'.cell? ⟨X,1,none⟩=some va∧w'.cell? ⟨X,2,none⟩=some vi∧w'.cell? ⟨Y,0,none⟩=some (.int .i64 e.fr)∧w'.cell? ⟨Y,1,none⟩=some (.int .i64 e.dt)∧w'.cell? ⟨Y,2,none⟩=some (.int .i64 e.kd)∧w'.cell? ⟨Y,3,none⟩=some (.int .i64 e.dst)∧w'.cell? ⟨Y,4,none⟩=some (.int .i64 e.arr)∧w'.cell? ⟨Y,5,none⟩=some (.int .i64 e.op)∧w'.cell? ⟨Y,6,none⟩=some (.int .i64 e.av)∧w'.cell? ⟨Y,7,none⟩=some (.int .i64 e.an)∧w'.cell? ⟨Y,8,none⟩=some (.int .i64 e.bv)∧w'.cell? ⟨Y,9,none⟩=some (.int .i64 e.bn))
 go_enter Tryz.func130,Tryz.ntmps130
 go_upto_region 1 with fail
 rw [HE.out.1,HE.out.2.1,HE.out.2.2.1,HE.out.2.2.2.1,HE.out.2.2.2.2.1,HE.out.2.2.2.2.2]
 go_cut [7,8] (fun s1 s2 wx=>s1=.int .i64 N1∧s2=.int .i64 N2∧Fdm w X Y R vv va vi e wx)
 case first =>
  go_region_held3 (fun w'=>w'.cell? ⟨X,0,none⟩=some vv∧w'.cell? ⟨X,1,none⟩=some va∧w'.cell? ⟨X,2,none⟩=some vi∧w'.cell? ⟨Y,0,none⟩=some (.int .i64 e.fr)∧w'.cell? ⟨Y,1,none⟩=some (.int .i64 e.dt)∧w'.cell? ⟨Y,2,none⟩=some (.int .i64 e.kd)∧w'.cell? ⟨Y,3,none⟩=some (.int .i64 e.dst)∧w'.cell? ⟨Y,4,none⟩=some (.int .i64 e.arr)∧w'.cell? ⟨Y,5,none⟩=some (.int .i64 e.op)∧w'.cell? ⟨Y,6,none⟩=some (.int .i64 e.av)∧w'.cell? ⟨Y,7,none⟩=some (.int .i64 e.an)∧w'.cell? ⟨Y,8,none⟩=some (.int .i64 e.bv)∧w'.cell? ⟨Y,9,none⟩=some (.int .i64 e.bn))
   ((with_reducible refine KS _ ?_;repeat (with_reducible (first | exact HF.out | refine Fdm.drew ?_ | refine Fdm.set ?_ _ _ | refine Fdm.next ?_ hb4 | refine Fdm.next ?_ hb3 | fail))))
   (first | (go_at_call 100;(first | ((with_reducible refine (HVa.out _ (by repeat (with_reducible (first | exact HF.out | refine Fdm.drew ?_ | refine Fdm.set ?_ _ _ | refine Fdm.next ?_ hb4 | refine Fdm.next ?_ hb3 | fail)))).mono ?_);rintro z w3 ⟨rfl,hb3⟩) | ((with_reducible refine (HVb.out _ (by repeat (with_reducible (first | exact HF.out | refine Fdm.drew ?_ | refine Fdm.set ?_ _ _ | refine Fdm.next ?_ hb4 | refine Fdm.next ?_ hb3 | fail)))).mono ?_);rintro z w4 ⟨rfl,hb4⟩))) | (go_at_call 134;(with_reducible refine (HN.out _).mono ?_);rintro z w5 ⟨rfl,rfl⟩))
  all_goals (go_wp2_with fail;go_meet;exact ⟨rfl,rfl,(by repeat (with_reducible (first | exact HF.out | refine Fdm.drew ?_ | refine Fdm.set ?_ _ _ | refine Fdm.next ?_ hb4 | refine Fdm.next ?_ hb3 | fail)))⟩)
 case rest =>
  obtain ⟨rfl,rfl,hf⟩:=hcut
  have HFL:=zh hf
  have hg:=HG.out wc hf N1 N2
  clear xc yc rc rf KS
  have xc:=hf.x.cell
  have yc:=hf.y.cell
  have hdv:=HDV.out
  by_cases hz:N2=0
  · rw [if_pos hz] at hg hdv
    subst hz
    have HGG:=zh hg
    have HDW:=zh hdv
    clear hg hdv HDV hf HG
    go_wp2_with (first | (go_at_call 128;(with_reducible refine (HGG.out).mono ?_);rintro z w6 ⟨rfl,hb6⟩;have HFN:=zh (HFL.out.next hb6);have r0:=HFN.out.any (j:=0) (by decide);have r1:=HFN.out.any (j:=1) (by decide);have r2:=HFN.out.any (j:=2) (by decide);have r3:=HFN.out.any (j:=3) (by decide);have r4:=HFN.out.any (j:=4) (by decide);have r5:=HFN.out.any (j:=5) (by decide);have r6:=HFN.out.any (j:=6) (by decide);have rf6:=HFN.out.free;clear hb6) | fail)
    refine bodyPost_ret (results_cell_row rfl _ _ R _ (ddC 0 PA N1 false false 0 false) _ _ rfl (fdm_end HFN.out _ _ _ _ _ _ _).1 rfl rfl (by kernel_rfl)) rfl ?_
    exact ⟨by rw [← HDW.out],(fdm_end HFN.out _ _ _ _ _ _ _).2⟩
  · rw [if_neg hz] at hg hdv
    clear hz
    have HGG:=zh hg
    have HDW:=zh hdv
    clear hg hdv HDV hf HG
    go_wp2_with (first | (go_at_call 128;(with_reducible refine (HGG.out).mono ?_);rintro z w6 ⟨rfl,hb6⟩;have HFN:=zh (HFL.out.next hb6);have r0:=HFN.out.any (j:=0) (by decide);have r1:=HFN.out.any (j:=1) (by decide);have r2:=HFN.out.any (j:=2) (by decide);have r3:=HFN.out.any (j:=3) (by decide);have r4:=HFN.out.any (j:=4) (by decide);have r5:=HFN.out.any (j:=5) (by decide);have r6:=HFN.out.any (j:=6) (by decide);have rf6:=HFN.out.free;clear hb6) | fail)
    refine bodyPost_ret (results_cell_row rfl _ _ R _ (ddC N2 none 0 false false 0 false) _ _ rfl (fdm_end HFN.out _ _ _ _ _ _ _).1 rfl rfl (by kernel_rfl)) rfl ?_
    exact ⟨by rw [← HDW.out],(fdm_end HFN.out _ _ _ _ _ _ _).2⟩
theorem streckon_rem (vv va vi:Value) (s:Rn) (w:World) (hs:VsAt w s vv va vi) (e:Ed) (he:EdV s e) (hk:e.kd=8) :
    Calls Tryz.prog 130 #[vsV vv va vi,edgeV e,.func (.func 135) #[] #[]] w (DeedTo w e s vv va):=by
 obtain ⟨W1,X,W2,Y,W3,R,hE,hx,hy,hr,hb,hwX,hXR,hYR,-⟩:=st3 w #[vv,va,vi] (edC e) dd0 91 40 166
 have hf:=fdm_of hx hy hr rfl hb hwX hXR hYR hE.2.2.2.1
 have xc:=hx.cell
 have yc:=hy.cell
 have rc:=hr.cell
 have rf:=hr.free
 have HF:=zh hf
 have HE:=zh hE
 clear hx hy hr hb hE hwX hXR hYR hf
 have HVa:=zh (fun W (hb:Fdm w X Y R vv va vi e W)=>stvalue_any vv va vi s W (hb.vs hs).v e.av e.an (he.a (by omega)))
 have HVb:=zh (fun W (hb:Fdm w X Y R vv va vi e W)=>stvalue_any vv va vi s W (hb.vs hs).v e.bv e.bn (he.b (by omega)))
 have HG:=zh (fun W (hb:Fdm w X Y R vv va vi e W) num wr=>stgive_any vv va vi s W (hb.vs hs).v e num wr (fun _=>he.dst (by omega)))
 obtain ⟨A,hA⟩:∃ x,edVa e s=x:=⟨_,rfl⟩
 obtain ⟨B,hB⟩:∃ x,edVb e s=x:=⟨_,rfl⟩
 have hfa:fitsI A:=by rw [← hA];exact valO_fits hs.fv he.fa
 have hfb:fitsI B:=by rw [← hB];exact valO_fits hs.fv he.fb
 have HN:=zh (fun W=>by
  have h:=nrem A B hfa hfb W
  rw [show remV A B=.tuple #[.int .i64 (numK 10 A B).1,.int .i64 (numK 10 A B).2] by exact srem_num A B] at h
  exact h)
 have hdd:ddOf (rowU w va) vv e s=if (numK 10 A B).2=0 then ddV 0 (plcA vv e.dst.toNat) (numK 10 A B).1 false false 0 false else ddV (numK 10 A B).2 none 0 false false 0 false:=by
  unfold ddOf
  rw [if_neg (by omega),if_pos (by omega),hA,hB,show e.kd+2=10 by omega]
 unfold DeedTo
 rw [hdd]
 rw [show valO s e.av e.an=A from hA] at HVa
 rw [show valO s e.bv e.bn=B from hB] at HVb
 obtain ⟨⟨N1,N2⟩,hN⟩:∃ p,numK 10 A B=p:=⟨_,rfl⟩
 simp only [hN] at HN ⊢
 obtain ⟨PA,hPA⟩:∃ x,plcA vv e.dst.toNat=x:=⟨_,rfl⟩
 simp only [hPA] at HG ⊢
 obtain ⟨DV,hDV⟩:∃ x,(if N2=0 then ddV 0 PA N1 false false 0 false else ddV N2 none 0 false false 0 false)=x:=⟨_,rfl⟩
 rw [hDV]
 have HDV:=zh hDV
 clear hDV hPA
 clear hfa hfb hA hB hN hdd hk hs he
 have KS:=fun w' (hW:Fdm w X Y R vv va vi e w')=>(⟨hW.x.cell 0,hW.x.cell 1,hW.x.cell 2,hW.y.cell 0,hW.y.cell 1,hW.y.cell 2,hW.y.cell 3,hW.y.cell 4,hW.y.cell 5,hW.y.cell 6,hW.y.cell 7,hW.y.cell 8,hW.y.cell 9⟩:w'.cell? ⟨X,0,none⟩=some vv∧w'.cell? ⟨X,1,none⟩=some va∧w'.cell? ⟨X,2,none⟩=some vi∧w'.cell? ⟨Y,0,none⟩=some (.int .i64 e.fr)∧w'.cell? ⟨Y,1,none⟩=some (.int .i64 e.dt)∧w'.cell? ⟨Y,2,none⟩=some (.int .i64 e.kd)∧w'.cell? ⟨Y,3,none⟩=some (.int .i64 e.dst)∧w'.cell? ⟨Y,4,none⟩=some (.int .i64 e.arr)∧w'.cell? ⟨Y,5,none⟩=some (.int .i64 e.op)∧w'.cell? ⟨Y,6,none⟩=some (.int .i64 e.av)∧w'.cell? ⟨Y,7,none⟩=some (.int .i64 e.an)∧w'.cell? ⟨Y,8,none⟩=some (.int .i64 e.bv)∧w'.cell? ⟨Y,9,none⟩=some (.int .i64 e.bn))
 go_enter Tryz.func130,Tryz.ntmps130
 go_upto_region 1 with fail
 rw [HE.out.1,HE.out.2.1,HE.out.2.2.1,HE.out.2.2.2.1,HE.out.2.2.2.2.1,HE.out.2.2.2.2.2]
 go_cut [7,8] (fun s1 s2 wx=>s1=.int .i64 N1∧s2=.int .i64 N2∧Fdm w X Y R vv va vi e wx)
 case first =>
  go_region_held3 (fun w'=>w'.cell? ⟨X,0,none⟩=some vv∧w'.cell? ⟨X,1,none⟩=some va∧w'.cell? ⟨X,2,none⟩=some vi∧w'.cell? ⟨Y,0,none⟩=some (.int .i64 e.fr)∧w'.cell? ⟨Y,1,none⟩=some (.int .i64 e.dt)∧w'.cell? ⟨Y,2,none⟩=some (.int .i64 e.kd)∧w'.cell? ⟨Y,3,none⟩=some (.int .i64 e.dst)∧w'.cell? ⟨Y,4,none⟩=some (.int .i64 e.arr)∧w'.cell? ⟨Y,5,none⟩=some (.int .i64 e.op)∧w'.cell? ⟨Y,6,none⟩=some (.int .i64 e.av)∧w'.cell? ⟨Y,7,none⟩=some (.int .i64 e.an)∧w'.cell? ⟨Y,8,none⟩=some (.int .i64 e.bv)∧w'.cell? ⟨Y,9,none⟩=some (.int .i64 e.bn))
   ((with_reducible refine KS _ ?_;repeat (with_reducible (first | exact HF.out | refine Fdm.drew ?_ | refine Fdm.set ?_ _ _ | refine Fdm.next ?_ hb4 | refine Fdm.next ?_ hb3 | fail))))
   (first | (go_at_call 100;(first | ((with_reducible refine (HVa.out _ (by repeat (with_reducible (first | exact HF.out | refine Fdm.drew ?_ | refine Fdm.set ?_ _ _ | refine Fdm.next ?_ hb4 | refine Fdm.next ?_ hb3 | fail)))).mono ?_);rintro z w3 ⟨rfl,hb3⟩) | ((with_reducible refine (HVb.out _ (by repeat (with_reducible (first | exact HF.out | refine Fdm.drew ?_ | refine Fdm.set ?_ _ _ | refine Fdm.next ?_ hb4 | refine Fdm.next ?_ hb3 | fail)))).mono ?_);rintro z w4 ⟨rfl,hb4⟩))) | (go_at_call 135;(with_reducible refine (HN.out _).mono ?_);rintro z w5 ⟨rfl,rfl⟩))
  all_goals (go_wp2_with fail;go_meet;exact ⟨rfl,rfl,(by repeat (with_reducible (first | exact HF.out | refine Fdm.drew ?_ | refine Fdm.set ?_ _ _ | refine Fdm.next ?_ hb4 | refine Fdm.next ?_ hb3 | fail)))⟩)
 case rest =>
  obtain ⟨rfl,rfl,hf⟩:=hcut
  have HFL:=zh hf
  have hg:=HG.out wc hf N1 N2
  clear xc yc rc rf KS
  have xc:=hf.x.cell
  have yc:=hf.y.cell
  have hdv:=HDV.out
  by_cases hz:N2=0
  · rw [if_pos hz] at hg hdv
    subst hz
    have HGG:=zh hg
    have HDW:=zh hdv
    clear hg hdv HDV hf HG
    go_wp2_with (first | (go_at_call 128;(with_reducible refine (HGG.out).mono ?_);rintro z w6 ⟨rfl,hb6⟩;have HFN:=zh (HFL.out.next hb6);have r0:=HFN.out.any (j:=0) (by decide);have r1:=HFN.out.any (j:=1) (by decide);have r2:=HFN.out.any (j:=2) (by decide);have r3:=HFN.out.any (j:=3) (by decide);have r4:=HFN.out.any (j:=4) (by decide);have r5:=HFN.out.any (j:=5) (by decide);have r6:=HFN.out.any (j:=6) (by decide);have rf6:=HFN.out.free;clear hb6) | fail)
    refine bodyPost_ret (results_cell_row rfl _ _ R _ (ddC 0 PA N1 false false 0 false) _ _ rfl (fdm_end HFN.out _ _ _ _ _ _ _).1 rfl rfl (by kernel_rfl)) rfl ?_
    exact ⟨by rw [← HDW.out],(fdm_end HFN.out _ _ _ _ _ _ _).2⟩
  · rw [if_neg hz] at hg hdv
    clear hz
    have HGG:=zh hg
    have HDW:=zh hdv
    clear hg hdv HDV hf HG
    go_wp2_with (first | (go_at_call 128;(with_reducible refine (HGG.out).mono ?_);rintro z w6 ⟨rfl,hb6⟩;have HFN:=zh (HFL.out.next hb6);have r0:=HFN.out.any (j:=0) (by decide);have r1:=HFN.out.any (j:=1) (by decide);have r2:=HFN.out.any (j:=2) (by decide);have r3:=HFN.out.any (j:=3) (by decide);have r4:=HFN.out.any (j:=4) (by decide);have r5:=HFN.out.any (j:=5) (by decide);have r6:=HFN.out.any (j:=6) (by decide);have rf6:=HFN.out.free;clear hb6) | fail)
    refine bodyPost_ret (results_cell_row rfl _ _ R _ (ddC N2 none 0 false false 0 false) _ _ rfl (fdm_end HFN.out _ _ _ _ _ _ _).1 rfl rfl (by kernel_rfl)) rfl ?_
    exact ⟨by rw [← HDW.out],(fdm_end HFN.out _ _ _ _ _ _ _).2⟩
theorem stadd_any (vv va vi:Value) (s:Rn) (w:World) (hs:VsAt w s vv va vi) (e:Ed) (he:EdV s e) (hk:e.kd=4) :
    Calls Tryz.prog 89 #[vsV vv va vi,edgeV e] w (DeedTo w e s vv va):=by
 obtain ⟨W1,X,W2,Y,W3,R,hE,hx,hy,hr,hb,hwX,hXR,hYR,-⟩:=st3 w #[vv,va,vi] (edC e) dd0 91 40 166
 have hf:=fdm_of hx hy hr rfl hb hwX hXR hYR hE.2.2.2.1
 have xc:=hx.cell
 have yc:=hy.cell
 have rc:=hr.cell
 have rf:=hr.free
 have HF:=zh hf
 have HE:=zh hE
 clear hx hy hr hb hE hwX hXR hYR hf
 have HR:=zh (fun W (hb:Fdm w X Y R vv va vi e W)=>streckon_add vv va vi s W (hb.vs hs) e he hk)
 unfold DeedTo at HR ⊢
 have hdd:∀ W,Fdm w X Y R vv va vi e W→ddOf (rowU W va) vv e s=ddOf (rowU w va) vv e s:=fun W _=>(dd_num (by omega)).trans (dd_num (by omega)).symm
 have HQ:=zh (fun W hb=>by have h:=HR.out W hb;rw [hdd W hb] at h;exact h)
 obtain ⟨wr,pl,num,tl,inp,en,hd,hV⟩:∃ wr pl num tl inp en hd,ddOf (rowU w va) vv e s=ddV wr pl num tl inp en hd:=dd_form _ _ _ _
 rw [hV] at HQ ⊢
 clear hdd HR hV
 clear hs he hk
 go_enter Tryz.func89,Tryz.ntmps89
 go_upto_region 1 with fail
 rw [HE.out.1,HE.out.2.1,HE.out.2.2.1,HE.out.2.2.2.1,HE.out.2.2.2.2.1,HE.out.2.2.2.2.2]
 go_wp2_with (first | (go_at_call 130;(with_reducible refine (HQ.out _ HF.out).mono ?_);rintro z w6 ⟨rfl,hb6⟩;have HFN:=zh (HF.out.next hb6);have r0:=HFN.out.any (j:=0) (by decide);have r1:=HFN.out.any (j:=1) (by decide);have r2:=HFN.out.any (j:=2) (by decide);have r3:=HFN.out.any (j:=3) (by decide);have r4:=HFN.out.any (j:=4) (by decide);have r5:=HFN.out.any (j:=5) (by decide);have r6:=HFN.out.any (j:=6) (by decide);have rf6:=HFN.out.free;clear hb6) | fail)
 refine bodyPost_ret (results_cell_row rfl _ _ R _ (ddC wr pl num tl inp en hd) _ _ rfl (fdm_end HFN.out _ _ _ _ _ _ _).1 rfl rfl (by kernel_rfl)) rfl ?_
 exact ⟨rfl,(fdm_end HFN.out _ _ _ _ _ _ _).2⟩
theorem stsub_any (vv va vi:Value) (s:Rn) (w:World) (hs:VsAt w s vv va vi) (e:Ed) (he:EdV s e) (hk:e.kd=5) :
    Calls Tryz.prog 90 #[vsV vv va vi,edgeV e] w (DeedTo w e s vv va):=by
 obtain ⟨W1,X,W2,Y,W3,R,hE,hx,hy,hr,hb,hwX,hXR,hYR,-⟩:=st3 w #[vv,va,vi] (edC e) dd0 91 40 166
 have hf:=fdm_of hx hy hr rfl hb hwX hXR hYR hE.2.2.2.1
 have xc:=hx.cell
 have yc:=hy.cell
 have rc:=hr.cell
 have rf:=hr.free
 have HF:=zh hf
 have HE:=zh hE
 clear hx hy hr hb hE hwX hXR hYR hf
 have HR:=zh (fun W (hb:Fdm w X Y R vv va vi e W)=>streckon_sub vv va vi s W (hb.vs hs) e he hk)
 unfold DeedTo at HR ⊢
 have hdd:∀ W,Fdm w X Y R vv va vi e W→ddOf (rowU W va) vv e s=ddOf (rowU w va) vv e s:=fun W _=>(dd_num (by omega)).trans (dd_num (by omega)).symm
 have HQ:=zh (fun W hb=>by have h:=HR.out W hb;rw [hdd W hb] at h;exact h)
 obtain ⟨wr,pl,num,tl,inp,en,hd,hV⟩:∃ wr pl num tl inp en hd,ddOf (rowU w va) vv e s=ddV wr pl num tl inp en hd:=dd_form _ _ _ _
 rw [hV] at HQ ⊢
 clear hdd HR hV
 clear hs he hk
 go_enter Tryz.func90,Tryz.ntmps90
 go_upto_region 1 with fail
 rw [HE.out.1,HE.out.2.1,HE.out.2.2.1,HE.out.2.2.2.1,HE.out.2.2.2.2.1,HE.out.2.2.2.2.2]
 go_wp2_with (first | (go_at_call 130;(with_reducible refine (HQ.out _ HF.out).mono ?_);rintro z w6 ⟨rfl,hb6⟩;have HFN:=zh (HF.out.next hb6);have r0:=HFN.out.any (j:=0) (by decide);have r1:=HFN.out.any (j:=1) (by decide);have r2:=HFN.out.any (j:=2) (by decide);have r3:=HFN.out.any (j:=3) (by decide);have r4:=HFN.out.any (j:=4) (by decide);have r5:=HFN.out.any (j:=5) (by decide);have r6:=HFN.out.any (j:=6) (by decide);have rf6:=HFN.out.free;clear hb6) | fail)
 refine bodyPost_ret (results_cell_row rfl _ _ R _ (ddC wr pl num tl inp en hd) _ _ rfl (fdm_end HFN.out _ _ _ _ _ _ _).1 rfl rfl (by kernel_rfl)) rfl ?_
 exact ⟨rfl,(fdm_end HFN.out _ _ _ _ _ _ _).2⟩
theorem stmul_any (vv va vi:Value) (s:Rn) (w:World) (hs:VsAt w s vv va vi) (e:Ed) (he:EdV s e) (hk:e.kd=6) :
    Calls Tryz.prog 91 #[vsV vv va vi,edgeV e] w (DeedTo w e s vv va):=by
 obtain ⟨W1,X,W2,Y,W3,R,hE,hx,hy,hr,hb,hwX,hXR,hYR,-⟩:=st3 w #[vv,va,vi] (edC e) dd0 91 40 166
 have hf:=fdm_of hx hy hr rfl hb hwX hXR hYR hE.2.2.2.1
 have xc:=hx.cell
 have yc:=hy.cell
 have rc:=hr.cell
 have rf:=hr.free
 have HF:=zh hf
 have HE:=zh hE
 clear hx hy hr hb hE hwX hXR hYR hf
 have HR:=zh (fun W (hb:Fdm w X Y R vv va vi e W)=>streckon_mul vv va vi s W (hb.vs hs) e he hk)
 unfold DeedTo at HR ⊢
 have hdd:∀ W,Fdm w X Y R vv va vi e W→ddOf (rowU W va) vv e s=ddOf (rowU w va) vv e s:=fun W _=>(dd_num (by omega)).trans (dd_num (by omega)).symm
 have HQ:=zh (fun W hb=>by have h:=HR.out W hb;rw [hdd W hb] at h;exact h)
 obtain ⟨wr,pl,num,tl,inp,en,hd,hV⟩:∃ wr pl num tl inp en hd,ddOf (rowU w va) vv e s=ddV wr pl num tl inp en hd:=dd_form _ _ _ _
 rw [hV] at HQ ⊢
 clear hdd HR hV
 clear hs he hk
 go_enter Tryz.func91,Tryz.ntmps91
 go_upto_region 1 with fail
 rw [HE.out.1,HE.out.2.1,HE.out.2.2.1,HE.out.2.2.2.1,HE.out.2.2.2.2.1,HE.out.2.2.2.2.2]
 go_wp2_with (first | (go_at_call 130;(with_reducible refine (HQ.out _ HF.out).mono ?_);rintro z w6 ⟨rfl,hb6⟩;have HFN:=zh (HF.out.next hb6);have r0:=HFN.out.any (j:=0) (by decide);have r1:=HFN.out.any (j:=1) (by decide);have r2:=HFN.out.any (j:=2) (by decide);have r3:=HFN.out.any (j:=3) (by decide);have r4:=HFN.out.any (j:=4) (by decide);have r5:=HFN.out.any (j:=5) (by decide);have r6:=HFN.out.any (j:=6) (by decide);have rf6:=HFN.out.free;clear hb6) | fail)
 refine bodyPost_ret (results_cell_row rfl _ _ R _ (ddC wr pl num tl inp en hd) _ _ rfl (fdm_end HFN.out _ _ _ _ _ _ _).1 rfl rfl (by kernel_rfl)) rfl ?_
 exact ⟨rfl,(fdm_end HFN.out _ _ _ _ _ _ _).2⟩
theorem stdiv_any (vv va vi:Value) (s:Rn) (w:World) (hs:VsAt w s vv va vi) (e:Ed) (he:EdV s e) (hk:e.kd=7) :
    Calls Tryz.prog 92 #[vsV vv va vi,edgeV e] w (DeedTo w e s vv va):=by
 obtain ⟨W1,X,W2,Y,W3,R,hE,hx,hy,hr,hb,hwX,hXR,hYR,-⟩:=st3 w #[vv,va,vi] (edC e) dd0 91 40 166
 have hf:=fdm_of hx hy hr rfl hb hwX hXR hYR hE.2.2.2.1
 have xc:=hx.cell
 have yc:=hy.cell
 have rc:=hr.cell
 have rf:=hr.free
 have HF:=zh hf
 have HE:=zh hE
 clear hx hy hr hb hE hwX hXR hYR hf
 have HR:=zh (fun W (hb:Fdm w X Y R vv va vi e W)=>streckon_div vv va vi s W (hb.vs hs) e he hk)
 unfold DeedTo at HR ⊢
 have hdd:∀ W,Fdm w X Y R vv va vi e W→ddOf (rowU W va) vv e s=ddOf (rowU w va) vv e s:=fun W _=>(dd_num (by omega)).trans (dd_num (by omega)).symm
 have HQ:=zh (fun W hb=>by have h:=HR.out W hb;rw [hdd W hb] at h;exact h)
 obtain ⟨wr,pl,num,tl,inp,en,hd,hV⟩:∃ wr pl num tl inp en hd,ddOf (rowU w va) vv e s=ddV wr pl num tl inp en hd:=dd_form _ _ _ _
 rw [hV] at HQ ⊢
 clear hdd HR hV
 clear hs he hk
 go_enter Tryz.func92,Tryz.ntmps92
 go_upto_region 1 with fail
 rw [HE.out.1,HE.out.2.1,HE.out.2.2.1,HE.out.2.2.2.1,HE.out.2.2.2.2.1,HE.out.2.2.2.2.2]
 go_wp2_with (first | (go_at_call 130;(with_reducible refine (HQ.out _ HF.out).mono ?_);rintro z w6 ⟨rfl,hb6⟩;have HFN:=zh (HF.out.next hb6);have r0:=HFN.out.any (j:=0) (by decide);have r1:=HFN.out.any (j:=1) (by decide);have r2:=HFN.out.any (j:=2) (by decide);have r3:=HFN.out.any (j:=3) (by decide);have r4:=HFN.out.any (j:=4) (by decide);have r5:=HFN.out.any (j:=5) (by decide);have r6:=HFN.out.any (j:=6) (by decide);have rf6:=HFN.out.free;clear hb6) | fail)
 refine bodyPost_ret (results_cell_row rfl _ _ R _ (ddC wr pl num tl inp en hd) _ _ rfl (fdm_end HFN.out _ _ _ _ _ _ _).1 rfl rfl (by kernel_rfl)) rfl ?_
 exact ⟨rfl,(fdm_end HFN.out _ _ _ _ _ _ _).2⟩
theorem strem_any (vv va vi:Value) (s:Rn) (w:World) (hs:VsAt w s vv va vi) (e:Ed) (he:EdV s e) (hk:e.kd=8) :
    Calls Tryz.prog 93 #[vsV vv va vi,edgeV e] w (DeedTo w e s vv va):=by
 obtain ⟨W1,X,W2,Y,W3,R,hE,hx,hy,hr,hb,hwX,hXR,hYR,-⟩:=st3 w #[vv,va,vi] (edC e) dd0 91 40 166
 have hf:=fdm_of hx hy hr rfl hb hwX hXR hYR hE.2.2.2.1
 have xc:=hx.cell
 have yc:=hy.cell
 have rc:=hr.cell
 have rf:=hr.free
 have HF:=zh hf
 have HE:=zh hE
 clear hx hy hr hb hE hwX hXR hYR hf
 have HR:=zh (fun W (hb:Fdm w X Y R vv va vi e W)=>streckon_rem vv va vi s W (hb.vs hs) e he hk)
 unfold DeedTo at HR ⊢
 have hdd:∀ W,Fdm w X Y R vv va vi e W→ddOf (rowU W va) vv e s=ddOf (rowU w va) vv e s:=fun W _=>(dd_num (by omega)).trans (dd_num (by omega)).symm
 have HQ:=zh (fun W hb=>by have h:=HR.out W hb;rw [hdd W hb] at h;exact h)
 obtain ⟨wr,pl,num,tl,inp,en,hd,hV⟩:∃ wr pl num tl inp en hd,ddOf (rowU w va) vv e s=ddV wr pl num tl inp en hd:=dd_form _ _ _ _
 rw [hV] at HQ ⊢
 clear hdd HR hV
 clear hs he hk
 go_enter Tryz.func93,Tryz.ntmps93
 go_upto_region 1 with fail
 rw [HE.out.1,HE.out.2.1,HE.out.2.2.1,HE.out.2.2.2.1,HE.out.2.2.2.2.1,HE.out.2.2.2.2.2]
 go_wp2_with (first | (go_at_call 130;(with_reducible refine (HQ.out _ HF.out).mono ?_);rintro z w6 ⟨rfl,hb6⟩;have HFN:=zh (HF.out.next hb6);have r0:=HFN.out.any (j:=0) (by decide);have r1:=HFN.out.any (j:=1) (by decide);have r2:=HFN.out.any (j:=2) (by decide);have r3:=HFN.out.any (j:=3) (by decide);have r4:=HFN.out.any (j:=4) (by decide);have r5:=HFN.out.any (j:=5) (by decide);have r6:=HFN.out.any (j:=6) (by decide);have rf6:=HFN.out.free;clear hb6) | fail)
 refine bodyPost_ret (results_cell_row rfl _ _ R _ (ddC wr pl num tl inp en hd) _ _ rfl (fdm_end HFN.out _ _ _ _ _ _ _).1 rfl rfl (by kernel_rfl)) rfl ?_
 exact ⟨rfl,(fdm_end HFN.out _ _ _ _ _ _ _).2⟩
theorem stcopy_any (vv va vi:Value) (s:Rn) (w:World) (hs:VsAt w s vv va vi) (e:Ed) (he:EdV s e) (hk:e.kd=2) :
    Calls Tryz.prog 87 #[vsV vv va vi,edgeV e] w (DeedTo w e s vv va):=by
 obtain ⟨W1,X,W2,Y,W3,R,hE,hx,hy,hr,hb,hwX,hXR,hYR,-⟩:=st3 w #[vv,va,vi] (edC e) dd0 91 40 166
 have hf:=fdm_of hx hy hr rfl hb hwX hXR hYR hE.2.2.2.1
 have xc:=hx.cell
 have yc:=hy.cell
 have rc:=hr.cell
 have rf:=hr.free
 have HF:=zh hf
 have HE:=zh hE
 clear hx hy hr hb hE hwX hXR hYR hf
 have HVa:=zh (fun W (hb:Fdm w X Y R vv va vi e W)=>stvalue_any vv va vi s W (hb.vs hs).v e.av e.an (he.a (by omega)))
 have HG:=zh (fun W (hb:Fdm w X Y R vv va vi e W) num wr=>stgive_any vv va vi s W (hb.vs hs).v e num wr (fun _=>he.dst (by omega)))
 have hdd:ddOf (rowU w va) vv e s=ddV 0 (plcA vv e.dst.toNat) (edVa e s) false false 0 false:=if_pos hk
 unfold DeedTo
 rw [hdd]
 obtain ⟨A,hA⟩:∃ x,edVa e s=x:=⟨_,rfl⟩
 rw [show valO s e.av e.an=A from hA] at HVa
 rw [hA]
 obtain ⟨PA,hPA⟩:∃ x,plcA vv e.dst.toNat=x:=⟨_,rfl⟩
 have HG0:=zh (fun W (hb:Fdm w X Y R vv va vi e W)=>by have h:=HG.out W hb A 0;rw [if_pos rfl,hPA] at h;exact h)
 rw [hPA]
 clear hA hPA hdd hk hs he HG
 have KS:=fun w' (hW:Fdm w X Y R vv va vi e w')=>(⟨hW.x.cell 0,hW.x.cell 1,hW.x.cell 2,hW.y.cell 0,hW.y.cell 1,hW.y.cell 2,hW.y.cell 3,hW.y.cell 4,hW.y.cell 5,hW.y.cell 6,hW.y.cell 7,hW.y.cell 8,hW.y.cell 9,hW.free 0,hW.free 1,hW.free 2,hW.free 3,hW.free 4,hW.free 5,hW.free 6,hW.any (j:=0) (by decide),hW.any (j:=1) (by decide),hW.any (j:=2) (by decide),hW.any (j:=3) (by decide),hW.any (j:=4) (by decide),hW.any (j:=5) (by decide),hW.any (j:=6) (by decide)⟩:w'.cell? ⟨X,0,none⟩=some vv∧w'.cell? ⟨X,1,none⟩=some va∧w'.cell? ⟨X,2,none⟩=some vi∧w'.cell? ⟨Y,0,none⟩=some (.int .i64 e.fr)∧w'.cell? ⟨Y,1,none⟩=some (.int .i64 e.dt)∧w'.cell? ⟨Y,2,none⟩=some (.int .i64 e.kd)∧w'.cell? ⟨Y,3,none⟩=some (.int .i64 e.dst)∧w'.cell? ⟨Y,4,none⟩=some (.int .i64 e.arr)∧w'.cell? ⟨Y,5,none⟩=some (.int .i64 e.op)∧w'.cell? ⟨Y,6,none⟩=some (.int .i64 e.av)∧w'.cell? ⟨Y,7,none⟩=some (.int .i64 e.an)∧w'.cell? ⟨Y,8,none⟩=some (.int .i64 e.bv)∧w'.cell? ⟨Y,9,none⟩=some (.int .i64 e.bn)∧w'.frozen? ⟨R,0,none⟩=false∧w'.frozen? ⟨R,1,none⟩=false∧w'.frozen? ⟨R,2,none⟩=false∧w'.frozen? ⟨R,3,none⟩=false∧w'.frozen? ⟨R,4,none⟩=false∧w'.frozen? ⟨R,5,none⟩=false∧w'.frozen? ⟨R,6,none⟩=false∧w'.cell? ⟨R,0,none⟩=some (cellOf w' ⟨R,0,none⟩)∧w'.cell? ⟨R,1,none⟩=some (cellOf w' ⟨R,1,none⟩)∧w'.cell? ⟨R,2,none⟩=some (cellOf w' ⟨R,2,none⟩)∧w'.cell? ⟨R,3,none⟩=some (cellOf w' ⟨R,3,none⟩)∧w'.cell? ⟨R,4,none⟩=some (cellOf w' ⟨R,4,none⟩)∧w'.cell? ⟨R,5,none⟩=some (cellOf w' ⟨R,5,none⟩)∧w'.cell? ⟨R,6,none⟩=some (cellOf w' ⟨R,6,none⟩))
 go_enter Tryz.func87,Tryz.ntmps87
 go_upto_region 1 with fail
 rw [HE.out.1,HE.out.2.1,HE.out.2.2.1,HE.out.2.2.2.1,HE.out.2.2.2.2.1,HE.out.2.2.2.2.2]
 go_region_held3 (fun w'=>w'.cell? ⟨X,0,none⟩=some vv∧w'.cell? ⟨X,1,none⟩=some va∧w'.cell? ⟨X,2,none⟩=some vi∧w'.cell? ⟨Y,0,none⟩=some (.int .i64 e.fr)∧w'.cell? ⟨Y,1,none⟩=some (.int .i64 e.dt)∧w'.cell? ⟨Y,2,none⟩=some (.int .i64 e.kd)∧w'.cell? ⟨Y,3,none⟩=some (.int .i64 e.dst)∧w'.cell? ⟨Y,4,none⟩=some (.int .i64 e.arr)∧w'.cell? ⟨Y,5,none⟩=some (.int .i64 e.op)∧w'.cell? ⟨Y,6,none⟩=some (.int .i64 e.av)∧w'.cell? ⟨Y,7,none⟩=some (.int .i64 e.an)∧w'.cell? ⟨Y,8,none⟩=some (.int .i64 e.bv)∧w'.cell? ⟨Y,9,none⟩=some (.int .i64 e.bn)∧w'.frozen? ⟨R,0,none⟩=false∧w'.frozen? ⟨R,1,none⟩=false∧w'.frozen? ⟨R,2,none⟩=false∧w'.frozen? ⟨R,3,none⟩=false∧w'.frozen? ⟨R,4,none⟩=false∧w'.frozen? ⟨R,5,none⟩=false∧w'.frozen? ⟨R,6,none⟩=false∧w'.cell? ⟨R,0,none⟩=some (cellOf w' ⟨R,0,none⟩)∧w'.cell? ⟨R,1,none⟩=some (cellOf w' ⟨R,1,none⟩)∧w'.cell? ⟨R,2,none⟩=some (cellOf w' ⟨R,2,none⟩)∧w'.cell? ⟨R,3,none⟩=some (cellOf w' ⟨R,3,none⟩)∧w'.cell? ⟨R,4,none⟩=some (cellOf w' ⟨R,4,none⟩)∧w'.cell? ⟨R,5,none⟩=some (cellOf w' ⟨R,5,none⟩)∧w'.cell? ⟨R,6,none⟩=some (cellOf w' ⟨R,6,none⟩))
  ((with_reducible refine KS _ ?_;repeat (with_reducible (first | exact HF.out | refine Fdm.drew ?_ | refine Fdm.set ?_ _ _ | refine Fdm.next ?_ hb4 | refine Fdm.next ?_ hb3 | fail))))
  (first | (go_at_call 100;(with_reducible refine (HVa.out _ (by repeat (with_reducible (first | exact HF.out | refine Fdm.drew ?_ | refine Fdm.set ?_ _ _ | refine Fdm.next ?_ hb4 | refine Fdm.next ?_ hb3 | fail)))).mono ?_);rintro z w3 ⟨rfl,hb3⟩) | (go_at_call 128;(with_reducible refine (HG0.out _ (by repeat (with_reducible (first | exact HF.out | refine Fdm.drew ?_ | refine Fdm.set ?_ _ _ | refine Fdm.next ?_ hb4 | refine Fdm.next ?_ hb3 | fail)))).mono ?_);rintro z w4 ⟨rfl,hb4⟩))
 all_goals
  have hf4:Fdm w X Y R vv va vi e w4:=(by repeat (with_reducible (first | exact HF.out | refine Fdm.drew ?_ | refine Fdm.set ?_ _ _ | refine Fdm.next ?_ hb4 | refine Fdm.next ?_ hb3 | fail)))
  go_wp2_with fail
  refine bodyPost_ret (results_cell_row rfl _ _ R _ (ddC 0 PA A false false 0 false) _ _ rfl (fdm_end hf4 _ _ _ _ _ _ _).1 rfl rfl (by kernel_rfl)) rfl ?_
  exact ⟨rfl,(fdm_end hf4 _ _ _ _ _ _ _).2⟩
end Go.Proofs.YtmohmggnjldddaaGreatDoor
