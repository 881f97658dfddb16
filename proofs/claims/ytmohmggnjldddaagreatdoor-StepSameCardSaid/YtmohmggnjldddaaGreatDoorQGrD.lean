/-
  A graph's checks: contrary, together, all[[]int]: proved is that they tell whether edges may be all from one point.
-/
import Derived.Test.YtmohmggnjldddaaGreatDoorQStC
import Derived.Test.YtmohmggnjldddaaGreatDoorQStA
import Derived.BigQuiet
import Derived.Deep.QuietTactic
import Derived.Test.YtmohmggnjldddaaGreatDoorQAbb
namespace Go.Proofs.YtmohmggnjldddaaGreatDoor
set_option maxHeartbeats 8000000
set_option maxRecDepth 100000
open Go Go.RowKit Go.Maps
theorem Fdm.alloc {w0 w':World} {X Y R:Nat} {vv va vi:Value} {e:Ed} (h:Fdm w0 X Y R vv va vi e w') (o:Obj):Fdm w0 X Y R vv va vi e (w'.alloc o):=h.next ((Below.refl _ w').alloc (Nat.le_refl _) o)
theorem Fdm.oth {w0 w':World} {X Y R:Nat} {vv va vi:Value} {e:Ed} (h:Fdm w0 X Y R vv va vi e w') {Z:Nat} (hz:R<Z) (j:Nat) (u:Value):Fdm w0 X Y R vv va vi e (w'.setCell ⟨Z,j,none⟩ u):=⟨h.x.other (by show X≠Z;have:=h.o;omega) u,h.y.other (by show Y≠Z;have:=h.o;omega) u,by obtain ⟨cs,h1,h2⟩:=h.r;exact ⟨_,h1.other (by show R≠Z;omega) u,h2⟩,h.b.setCell (by show w0.heap.size≤Z;have:=h.o;omega) u,h.o⟩
theorem Fdm.oth7 {w0 w':World} {X Y R:Nat} {vv va vi:Value} {e:Ed} (h:Fdm w0 X Y R vv va vi e w') {Z:Nat} (hz:R<Z) (v0 v1 v2 v3 v4 v5 v6:Value):Fdm w0 X Y R vv va vi e (dput7 w' Z v0 v1 v2 v3 v4 v5 v6):=((((((h.oth hz 0 v0).oth hz 1 v1).oth hz 2 v2).oth hz 3 v3).oth hz 4 v4).oth hz 5 v5).oth hz 6 v6
structure Fdi (w0:World) (X Y R:Nat) (vv va vi:Value) (e:Ed) (ib io:Nat) (v:Int) (w':World):Prop where
 f:Fdm w0 X Y R vv va vi e w'
 i:w'.cell? ⟨ib,io,none⟩=some (.int .i64 v)
 lt:ib≤R
theorem Fdi.drew {w0 w':World} {X Y R:Nat} {vv va vi:Value} {e:Ed} {ib io:Nat} {v:Int} (h:Fdi w0 X Y R vv va vi e ib io v w'):Fdi w0 X Y R vv va vi e ib io v w'.drew:=⟨h.f.drew,h.i,h.lt⟩
theorem Fdi.next {w0 w' w2:World} {X Y R:Nat} {vv va vi:Value} {e:Ed} {ib io:Nat} {v:Int} (h:Fdi w0 X Y R vv va vi e ib io v w') (hb:Below w'.heap.size w' w2):Fdi w0 X Y R vv va vi e ib io v w2:=⟨h.f.next hb,keeps_below hb _ _ _ h.i,h.lt⟩
theorem Fdi.alloc {w0 w':World} {X Y R:Nat} {vv va vi:Value} {e:Ed} {ib io:Nat} {v:Int} (h:Fdi w0 X Y R vv va vi e ib io v w') (o:Obj):Fdi w0 X Y R vv va vi e ib io v (w'.alloc o):=h.next ((Below.refl _ w').alloc (Nat.le_refl _) o)
theorem Fdi.oth {w0 w':World} {X Y R:Nat} {vv va vi:Value} {e:Ed} {ib io:Nat} {v:Int} (h:Fdi w0 X Y R vv va vi e ib io v w') {Z:Nat} (hz:R<Z) (j:Nat) (u:Value):Fdi w0 X Y R vv va vi e ib io v (w'.setCell ⟨Z,j,none⟩ u):=⟨h.f.oth hz j u,by
 have ho:Only Z w' (w'.setCell ⟨Z,j,none⟩ u):=(Only.refl Z w').setCell (p:=⟨Z,j,none⟩) rfl _
 exact (World.cell?_of_block (w:=w') (a:=⟨ib,io,none⟩) (ho.block ib (World.block_lt_of_cell? w' ⟨ib,io,none⟩ h.i) (by have:=h.lt;omega))).trans h.i,h.lt⟩
theorem stneg_any (vv va vi:Value) (s:Rn) (w:World) (hs:VsAt w s vv va vi) (e:Ed) (he:EdV s e) (hk:e.kd=3) :
    Calls Tryz.prog 88 #[vsV vv va vi,edgeV e] w (DeedTo w e s vv va):=by
 obtain ⟨W1,X,W2,Y,W3,R,hE,hx,hy,hr,hb,hwX,hXR,hYR,-⟩:=st3 w #[vv,va,vi] (edC e) dd0 91 40 166
 have hf:=fdm_of hx hy hr rfl hb hwX hXR hYR hE.2.2.2.1
 have xc:=hx.cell
 have yc:=hy.cell
 have rc:=hr.cell
 have rf:=hr.free
 have HF:=zh hf
 have HE:=zh hE
 clear hx hy hr hb hE hwX hXR hYR hf
 have HVa:=zh (fun W (hb:Fdm w X Y R vv va vi e W)=>stvalue_any vv va vi s W (hb.vs hs).v e.av e.an (he.a (by omega)))
 have HG:=zh (fun W (hb:Fdm w X Y R vv va vi e W) num wr=>stgive_any vv va vi s W (hb.vs hs).v e num wr (fun _=>he.dst (by omega)))
 obtain ⟨A,hA⟩:∃ x,edVa e s=x:=⟨_,rfl⟩
 have hfa:fitsI A:=by rw [← hA];exact valO_fits hs.fv he.fa
 have HN:=zh (fun W=>by
  have h:=nneg A hfa W
  rw [show tellV (-A)=.tuple #[.int .i64 (numK 5 A (edVb e s)).1,.int .i64 (numK 5 A (edVb e s)).2] by rw [stell_num];rfl] at h
  exact h)
 have hdd:ddOf (rowU w va) vv e s=if (numK 5 A (edVb e s)).2=0 then ddV 0 (plcA vv e.dst.toNat) (numK 5 A (edVb e s)).1 false false 0 false else ddV (numK 5 A (edVb e s)).2 none 0 false false 0 false:=by
  rw [dd_num (by omega),hA,show e.kd+2=5 by omega]
 unfold DeedTo
 rw [hdd]
 rw [show valO s e.av e.an=A from hA] at HVa
 obtain ⟨⟨N1,N2⟩,hN⟩:∃ p,numK 5 A (edVb e s)=p:=⟨_,rfl⟩
 simp only [hN] at HN ⊢
 obtain ⟨PA,hPA⟩:∃ x,plcA vv e.dst.toNat=x:=⟨_,rfl⟩
 simp only [hPA] at HG ⊢
 obtain ⟨DV,hDV⟩:∃ x,(if N2=0 then ddV 0 PA N1 false false 0 false else ddV N2 none 0 false false 0 false)=x:=⟨_,rfl⟩
 rw [hDV]
 have HDV:=zh hDV
 clear hDV hPA
 clear hfa hA hN hdd hk hs he
 have KS:True:=trivial
 go_enter Tryz.func88,Tryz.ntmps88
 go_upto_region 1 with fail
 rw [HE.out.1,HE.out.2.1,HE.out.2.2.1,HE.out.2.2.2.1,HE.out.2.2.2.2.1,HE.out.2.2.2.2.2]
 go_upto_region 2 with (first | (go_at_call 100;(with_reducible refine (HVa.out _ HF.out).mono ?_);rintro z w3 ⟨rfl,hb3⟩) | (go_at_call 129;(with_reducible refine (HN.out _).mono ?_);rintro z w5 ⟨rfl,rfl⟩) | fail)
 have hf:=HF.out.next hb3
 clear hb3
 have HFL:=zh hf
 have hg:=HG.out _ hf N1 N2
 clear xc yc rc rf KS
 have xc:=hf.x.cell
 have yc:=hf.y.cell
 have hdv:=HDV.out
 by_cases hz:N2=0
 · rw [if_pos hz] at hg hdv
   subst hz
   have HGG:=zh hg
   have HDW:=zh hdv
   clear hg hdv HDV hf HG
   go_wp2_with (first | (go_at_call 128;(with_reducible refine (HGG.out).mono ?_);rintro z w6 ⟨rfl,hb6⟩;have HFN:=zh (HFL.out.next hb6);have r0:=HFN.out.any (j:=0) (by decide);have r1:=HFN.out.any (j:=1) (by decide);have r2:=HFN.out.any (j:=2) (by decide);have r3:=HFN.out.any (j:=3) (by decide);have r4:=HFN.out.any (j:=4) (by decide);have r5:=HFN.out.any (j:=5) (by decide);have r6:=HFN.out.any (j:=6) (by decide);have rf6:=HFN.out.free;clear hb6) | fail)
   refine bodyPost_ret (results_cell_row rfl _ _ R _ (ddC 0 PA N1 false false 0 false) _ _ rfl (fdm_end HFN.out _ _ _ _ _ _ _).1 rfl rfl (by kernel_rfl)) rfl ?_
   exact ⟨by rw [← HDW.out],(fdm_end HFN.out _ _ _ _ _ _ _).2⟩
 · rw [if_neg hz] at hg hdv
   clear hz
   have HGG:=zh hg
   have HDW:=zh hdv
   clear hg hdv HDV hf HG
   go_wp2_with (first | (go_at_call 128;(with_reducible refine (HGG.out).mono ?_);rintro z w6 ⟨rfl,hb6⟩;have HFN:=zh (HFL.out.next hb6);have r0:=HFN.out.any (j:=0) (by decide);have r1:=HFN.out.any (j:=1) (by decide);have r2:=HFN.out.any (j:=2) (by decide);have r3:=HFN.out.any (j:=3) (by decide);have r4:=HFN.out.any (j:=4) (by decide);have r5:=HFN.out.any (j:=5) (by decide);have r6:=HFN.out.any (j:=6) (by decide);have rf6:=HFN.out.free;clear hb6) | fail)
   refine bodyPost_ret (results_cell_row rfl _ _ R _ (ddC N2 none 0 false false 0 false) _ _ rfl (fdm_end HFN.out _ _ _ _ _ _ _).1 rfl rfl (by kernel_rfl)) rfl ?_
   exact ⟨by rw [← HDW.out],(fdm_end HFN.out _ _ _ _ _ _ _).2⟩
theorem stinput_any (vv va vi:Value) (s:Rn) (w:World) (hs:VsAt w s vv va vi) (e:Ed) (he:EdV s e) (hk:e.kd=9) (hne:s.left≠[]) :
    Calls Tryz.prog 94 #[vsV vv va vi,edgeV e] w (DeedTo w e s vv va):=by
 obtain ⟨W1,X,W2,Y,W3,R,hE,hx,hy,hr,hb,hwX,hXR,hYR,hsz⟩:=st3 w #[vv,va,vi] (edC e) dd0 91 40 166
 have hf:=fdm_of hx hy hr rfl hb hwX hXR hYR hE.2.2.2.1
 obtain ⟨v,l,hl⟩:∃ v l,s.left=v :: l:=by
  cases h:s.left with
  | nil=>exact absurd h hne
  | cons v l=>exact ⟨v,l,rfl⟩
 have hvi:=(hf.vs hs).i
 rw [hl] at hvi
 obtain ⟨ia,ic,rfl,hr2⟩:=hvi
 obtain ⟨ib,io,rfl,hci⟩:=hr2.resolve_left (by simp)
 have i0:=hci 0 (by simp)
 simp only [List.getElem_cons_zero,Nat.add_zero] at i0
 have hln:(0:Int)<((v :: l).length:Int):=by simp<;>omega
 have hln2:0<(v :: l).length:=by simp
 obtain ⟨LN,hLN⟩:∃ n,(v :: l).length=n:=⟨_,rfl⟩
 rw [hLN] at hln hln2 hf hx
 have xc:=hx.cell
 have yc:=hy.cell
 have rc:=hr.cell
 have rf:=hr.free
 rw [hLN] at hs
 have hdd:ddOf (rowU w va) vv e s=ddV 0 (plcA vv e.dst.toNat) v true true v false:=by
  unfold ddOf
  rw [if_neg (by omega),if_neg (by omega),if_pos hk,hl]
  rfl
 unfold DeedTo
 rw [hdd,hLN]
 have HG:=zh (fun W (hb:Fdm w X Y R vv va (.slice (some ⟨ib,io,none⟩) LN ic) e W) num wr=>stgive_any vv va (.slice (some ⟨ib,io,none⟩) LN ic) s W (hb.vs hs).v e num wr (fun _=>he.dst (by omega)))
 obtain ⟨PA,hPA⟩:∃ x,plcA vv e.dst.toNat=x:=⟨_,rfl⟩
 have HG0:=zh (fun W (hb:Fdm w X Y R vv va (.slice (some ⟨ib,io,none⟩) LN ic) e W)=>by have h:=HG.out W hb v 0;rw [if_pos rfl,hPA] at h;exact h)
 rw [hPA]
 have HF:=zh hf
 rw [hLN] at hE
 have HE:=zh hE
 have HZ:=zh hsz
 have hRZ:R<W3.heap.size:=by omega
 clear hx hy hr hb hE hwX hXR hYR hf hsz hci hr2 hl hne hPA hdd hk hs he HG hLN
 have KS:=fun w' (hW:Fdi w X Y R vv va (.slice (some ⟨ib,io,none⟩) LN ic) e ib io v w')=>(⟨hW.f.x.cell 0,hW.f.x.cell 1,hW.f.x.cell 2,hW.f.y.cell 0,hW.f.y.cell 1,hW.f.y.cell 2,hW.f.y.cell 3,hW.f.y.cell 4,hW.f.y.cell 5,hW.f.y.cell 6,hW.f.y.cell 7,hW.f.y.cell 8,hW.f.y.cell 9,hW.i⟩:w'.cell? ⟨X,0,none⟩=some vv∧w'.cell? ⟨X,1,none⟩=some va∧w'.cell? ⟨X,2,none⟩=some (.slice (some ⟨ib,io,none⟩) LN ic)∧w'.cell? ⟨Y,0,none⟩=some (.int .i64 e.fr)∧w'.cell? ⟨Y,1,none⟩=some (.int .i64 e.dt)∧w'.cell? ⟨Y,2,none⟩=some (.int .i64 e.kd)∧w'.cell? ⟨Y,3,none⟩=some (.int .i64 e.dst)∧w'.cell? ⟨Y,4,none⟩=some (.int .i64 e.arr)∧w'.cell? ⟨Y,5,none⟩=some (.int .i64 e.op)∧w'.cell? ⟨Y,6,none⟩=some (.int .i64 e.av)∧w'.cell? ⟨Y,7,none⟩=some (.int .i64 e.an)∧w'.cell? ⟨Y,8,none⟩=some (.int .i64 e.bv)∧w'.cell? ⟨Y,9,none⟩=some (.int .i64 e.bn)∧w'.cell? ⟨ib,io,none⟩=some (.int .i64 v))
 have HFI:=zh (show Fdi w X Y R vv va (.slice (some ⟨ib,io,none⟩) LN ic) e ib io v W3 from ⟨HF.out,i0,by have h1:=World.block_lt_of_cell? W3 _ i0;have h2:=HZ.out;simp only at h1;omega⟩)
 go_enter Tryz.func94,Tryz.ntmps94
 go_upto_region 1 with fail
 rw [HE.out.1,HE.out.2.1,HE.out.2.2.1,HE.out.2.2.2.1,HE.out.2.2.2.2.1,HE.out.2.2.2.2.2]
 go_cut [5] (fun s5 wx=>∃ Z,s5=.pointer (some ⟨Z,0,none⟩)∧Blk wx Z (ddC 0 PA v false false 0 false) 166∧Fdm w X Y R vv va (.slice (some ⟨ib,io,none⟩) LN ic) e wx∧R<Z)
 case first =>
  go_region_held3 (fun w'=>w'.cell? ⟨X,0,none⟩=some vv∧w'.cell? ⟨X,1,none⟩=some va∧w'.cell? ⟨X,2,none⟩=some (.slice (some ⟨ib,io,none⟩) LN ic)∧w'.cell? ⟨Y,0,none⟩=some (.int .i64 e.fr)∧w'.cell? ⟨Y,1,none⟩=some (.int .i64 e.dt)∧w'.cell? ⟨Y,2,none⟩=some (.int .i64 e.kd)∧w'.cell? ⟨Y,3,none⟩=some (.int .i64 e.dst)∧w'.cell? ⟨Y,4,none⟩=some (.int .i64 e.arr)∧w'.cell? ⟨Y,5,none⟩=some (.int .i64 e.op)∧w'.cell? ⟨Y,6,none⟩=some (.int .i64 e.av)∧w'.cell? ⟨Y,7,none⟩=some (.int .i64 e.an)∧w'.cell? ⟨Y,8,none⟩=some (.int .i64 e.bv)∧w'.cell? ⟨Y,9,none⟩=some (.int .i64 e.bn)∧w'.cell? ⟨ib,io,none⟩=some (.int .i64 v))
   ((with_reducible refine KS _ ?_;repeat (with_reducible (first | exact HFI.out | refine Fdi.drew ?_ | refine Fdi.alloc ?_ _ | refine Fdi.oth ?_ hRZ _ _ | refine Fdi.oth ?_ hRW _ _ | refine Fdi.next ?_ hb4 | fail))))
   (first | (go_at_call 128;(with_reducible refine (HG0.out _ (Fdi.f (ib:=ib) (io:=io) (v:=v) (by repeat (with_reducible (first | exact HFI.out | refine Fdi.drew ?_ | refine Fdi.alloc ?_ _ | refine Fdi.oth ?_ hRZ _ _ | refine Fdi.oth ?_ hRW _ _ | refine Fdi.next ?_ hb4 | fail))))).mono ?_);rintro z w4 ⟨rfl,hb4⟩;(first | (have qb:Blk w4 W3.heap.size dd0 166:=(Blk.new W3.drew dd0 166).next hb4;have f0:=qb.free 0;have c0:=qb.cell 0;have f1:=qb.free 1;have c1:=qb.cell 1;have f2:=qb.free 2;have c2:=qb.cell 2;have f3:=qb.free 3;have c3:=qb.cell 3;have f4:=qb.free 4;have c4:=qb.cell 4;have f5:=qb.free 5;have c5:=qb.cell 5;have f6:=qb.free 6;have c6:=qb.cell 6; skip) | (have hRW:R<w4.heap.size:=Nat.lt_of_lt_of_le hRZ hb4.size))))
  all_goals
   go_wp2_with fail
   go_meet
   first
    | exact ⟨_,rfl,dput7_blk qb _ _ _ _ _ _ _,Fdm.oth7 (Fdi.f (ib:=ib) (io:=io) (v:=v) (by repeat (with_reducible (first | exact HFI.out | refine Fdi.drew ?_ | refine Fdi.alloc ?_ _ | refine Fdi.oth ?_ hRZ _ _ | refine Fdi.oth ?_ hRW _ _ | refine Fdi.next ?_ hb4 | fail)))) hRZ _ _ _ _ _ _ _,hRZ⟩
    | exact ⟨_,rfl,Blk.new w4 _ _,Fdm.alloc (Fdi.f (ib:=ib) (io:=io) (v:=v) (by repeat (with_reducible (first | exact HFI.out | refine Fdi.drew ?_ | refine Fdi.alloc ?_ _ | refine Fdi.oth ?_ hRZ _ _ | refine Fdi.oth ?_ hRW _ _ | refine Fdi.next ?_ hb4 | fail)))) _,hRW⟩
 case rest =>
  obtain ⟨Z,rfl,hz,hf,hRz⟩:=hcut
  have zc:=hz.cell
  have zf:=hz.free
  have HZ2:=zh (za hz (za hf hRz))
  clear hz hf hRz xc yc rc rf KS
  go_upto_region 3 with fail
  obtain ⟨W5,hW5⟩:∃ W,(((wc.setCell ⟨Z,3,none⟩ (.bool true)).setCell ⟨Z,4,none⟩ (.bool true)).setCell ⟨Z,5,none⟩ (.int .i64 v)).setCell ⟨Z,6,none⟩ (.bool false)=W:=⟨_,rfl⟩
  have hz5:Blk W5 Z (ddC 0 PA v true true v false) 166:=by rw [← hW5];exact (((HZ2.out.1.set 3 _).set 4 _).set 5 _).set 6 _
  have hf5:Fdm w X Y R vv va (.slice (some ⟨ib,io,none⟩) LN ic) e W5:=by rw [← hW5];exact (((HZ2.out.2.1.oth HZ2.out.2.2 3 _).oth HZ2.out.2.2 4 _).oth HZ2.out.2.2 5 _).oth HZ2.out.2.2 6 _
  rw [hW5]
  clear hW5
  have zc:=hz5.cell
  have rf6:=hf5.free
  have r0:=hf5.any (j:=0) (by decide)
  have r1:=hf5.any (j:=1) (by decide)
  have r2:=hf5.any (j:=2) (by decide)
  have r3:=hf5.any (j:=3) (by decide)
  have r4:=hf5.any (j:=4) (by decide)
  have r5:=hf5.any (j:=5) (by decide)
  have r6:=hf5.any (j:=6) (by decide)
  have HFN:=zh hf5
  clear hf5 hz5
  go_wp2_with fail
  refine bodyPost_ret (results_cell_row rfl _ _ R _ (ddC 0 PA v true true v false) _ _ rfl (fdm_end HFN.out _ _ _ _ _ _ _).1 rfl rfl (by kernel_rfl)) rfl ?_
  exact ⟨rfl,(fdm_end HFN.out _ _ _ _ _ _ _).2⟩
theorem stload_any (vv va vi:Value) (s:Rn) (w:World) (hs:VsAt w s vv va vi) (e:Ed) (he:EdV s e) (hk:e.kd=10) :
    Calls Tryz.prog 95 #[vsV vv va vi,edgeV e] w (DeedTo w e s vv va):=by
 obtain ⟨p,hp⟩:∃ p:Nat,e.arr=p:=⟨e.arr.toNat,by have:=he.arr (by omega);omega⟩
 have hpl:p<s.arrs.length:=by have:=he.arr (by omega);omega
 obtain ⟨b,o,⟨c,rfl⟩,hc1,ua,uc,hu,hur⟩:=row_at hs p hpl
 obtain ⟨W1,X,W2,Y,W3,R,hE,hx,hy,hr,hb,hwX,hXR,hYR,-⟩:=st3 w #[vv,(.slice (some ⟨b,o,none⟩) s.arrs.length c),vi] (edC e) dd0 91 40 166
 have hf:=fdm_of hx hy hr rfl hb hwX hXR hYR hE.2.2.2.1
 have xc:=hx.cell
 have yc:=hy.cell
 have rc:=hr.cell
 have rf:=hr.free
 have HF:=zh hf
 have HE:=zh hE
 clear hx hy hr hb hE hwX hXR hYR hf
 have HIT:=zh (fun W (hb:Fdm w X Y R vv (.slice (some ⟨b,o,none⟩) s.arrs.length c) vi e W)=>stitem_any vv (.slice (some ⟨b,o,none⟩) s.arrs.length c) vi s W (hb.vs hs) e he (by omega))
 have hru:∀ W,Fdm w X Y R vv (.slice (some ⟨b,o,none⟩) s.arrs.length c) vi e W→rowU W (.slice (some ⟨b,o,none⟩) s.arrs.length c) p=.slice ua s.arrs[p].length uc:=fun W hb=>(rowU_next hs hb.b p hpl).trans hu
 have har:arrO s e.arr=s.arrs[p]:=by unfold arrO;rw [hp,Int.toNat_natCast,List.getD_eq_getElem?_getD,List.getElem?_eq_getElem hpl];rfl
 have HG:=zh (fun W (hb:Fdm w X Y R vv (.slice (some ⟨b,o,none⟩) s.arrs.length c) vi e W) num=>stgive_any vv (.slice (some ⟨b,o,none⟩) s.arrs.length c) vi s W (hb.vs hs).v e num 0 (fun _=>he.dst (by omega)))
 have hdd:ddOf (rowU w (.slice (some ⟨b,o,none⟩) s.arrs.length c)) vv e s=if edVa e s<0∨(s.arrs[p].length:Int)≤edVa e s then ddV 3 none 0 false false 0 false else ddV 0 (plcA vv e.dst.toNat) (s.arrs[p].getD (edVa e s).toNat 0) false false 0 false:=by
  unfold ddOf
  rw [if_neg (by omega),if_neg (by omega),if_neg (by omega),if_pos hk,har]
 unfold DeedTo
 rw [hdd]
 have HI2:=zh (fun W hb=>by have h:=HIT.out W hb;rw [har,hp,Int.toNat_natCast,hru W hb] at h;exact h)
 obtain ⟨A,hA⟩:∃ x,edVa e s=x:=⟨_,rfl⟩
 simp only [hA] at HI2 ⊢
 by_cases hbad:A<0∨(s.arrs[p].length:Int)≤A
 · rw [if_pos hbad]
   have HI3:=zh (fun W hb=>by have h:=HI2.out W hb;rw [if_pos hbad] at h;exact h)
   clear hbad hdd hk hs he hru har hu hur hc1 HIT HI2 hp
   go_enter Tryz.func95,Tryz.ntmps95
   go_upto_region 1 with fail
   rw [HE.out.1,HE.out.2.1,HE.out.2.2.1,HE.out.2.2.2.1,HE.out.2.2.2.2.1,HE.out.2.2.2.2.2]
   go_upto_region 2 with (first | (go_at_call 136;(with_reducible refine (HI3.out _ HF.out).mono ?_);rintro z w3 ⟨rfl,hb3⟩) | fail)
   have hf:=HF.out.next hb3
   clear hb3 xc yc rc rf
   have r0:=hf.any (j:=0) (by decide)
   have r1:=hf.any (j:=1) (by decide)
   have r2:=hf.any (j:=2) (by decide)
   have r3:=hf.any (j:=3) (by decide)
   have r4:=hf.any (j:=4) (by decide)
   have r5:=hf.any (j:=5) (by decide)
   have r6:=hf.any (j:=6) (by decide)
   have rf6:=hf.free
   have HFN:=zh hf
   clear hf
   go_wp2_with fail
   refine bodyPost_ret (results_cell_row rfl _ _ R _ (ddC 3 none 0 false false 0 false) _ _ rfl (fdm_end HFN.out _ _ _ _ _ _ _).1 rfl rfl (by kernel_rfl)) rfl ?_
   exact ⟨rfl,(fdm_end HFN.out _ _ _ _ _ _ _).2⟩
 · rw [if_neg hbad]
   obtain ⟨q,rfl⟩:∃ q:Nat,A=q:=⟨A.toNat,by omega⟩
   have hql:q<s.arrs[p].length:=by omega
   obtain ⟨b2,o2,rfl,hc2⟩:=hur.resolve_left (by omega)
   have HI3:=zh (fun W hb=>by have h:=HI2.out W hb;rw [if_neg hbad] at h;exact h)
   have m0:=hc2 q hql
   simp only [Int.toNat_natCast] at HI3 ⊢
   have hgd:s.arrs[p].getD q 0=s.arrs[p][q]:=by rw [List.getD_eq_getElem?_getD,List.getElem?_eq_getElem hql,Option.getD_some]
   rw [hgd]
   obtain ⟨V,hV⟩:∃ V,s.arrs[p][q]=V:=⟨_,rfl⟩
   rw [hV] at m0 ⊢
   obtain ⟨PA,hPA⟩:∃ x,plcA vv e.dst.toNat=x:=⟨_,rfl⟩
   have HG0:=zh (fun W hb=>by have h:=HG.out W hb V;rw [if_pos rfl,hPA] at h;exact h)
   rw [hPA]
   simp only [plcA] at HI3
   have HM:=zh m0
   clear hbad hdd hk hs he hru har hu hc1 HIT HI2 hp hc2 hql hgd hV hPA HG m0
   have KS:=fun w' (hW:Fdm w X Y R vv (.slice (some ⟨b,o,none⟩) s.arrs.length c) vi e w')=>(⟨hW.x.cell 0,hW.x.cell 1,hW.x.cell 2,hW.y.cell 0,hW.y.cell 1,hW.y.cell 2,hW.y.cell 3,hW.y.cell 4,hW.y.cell 5,hW.y.cell 6,hW.y.cell 7,hW.y.cell 8,hW.y.cell 9,hW.free 0,hW.free 1,hW.free 2,hW.free 3,hW.free 4,hW.free 5,hW.free 6,hW.any (j:=0) (by decide),hW.any (j:=1) (by decide),hW.any (j:=2) (by decide),hW.any (j:=3) (by decide),hW.any (j:=4) (by decide),hW.any (j:=5) (by decide),hW.any (j:=6) (by decide),keeps_below hW.b _ _ _ HM.out⟩:w'.cell? ⟨X,0,none⟩=some vv∧w'.cell? ⟨X,1,none⟩=some (.slice (some ⟨b,o,none⟩) s.arrs.length c)∧w'.cell? ⟨X,2,none⟩=some vi∧w'.cell? ⟨Y,0,none⟩=some (.int .i64 e.fr)∧w'.cell? ⟨Y,1,none⟩=some (.int .i64 e.dt)∧w'.cell? ⟨Y,2,none⟩=some (.int .i64 e.kd)∧w'.cell? ⟨Y,3,none⟩=some (.int .i64 e.dst)∧w'.cell? ⟨Y,4,none⟩=some (.int .i64 e.arr)∧w'.cell? ⟨Y,5,none⟩=some (.int .i64 e.op)∧w'.cell? ⟨Y,6,none⟩=some (.int .i64 e.av)∧w'.cell? ⟨Y,7,none⟩=some (.int .i64 e.an)∧w'.cell? ⟨Y,8,none⟩=some (.int .i64 e.bv)∧w'.cell? ⟨Y,9,none⟩=some (.int .i64 e.bn)∧w'.frozen? ⟨R,0,none⟩=false∧w'.frozen? ⟨R,1,none⟩=false∧w'.frozen? ⟨R,2,none⟩=false∧w'.frozen? ⟨R,3,none⟩=false∧w'.frozen? ⟨R,4,none⟩=false∧w'.frozen? ⟨R,5,none⟩=false∧w'.frozen? ⟨R,6,none⟩=false∧w'.cell? ⟨R,0,none⟩=some (cellOf w' ⟨R,0,none⟩)∧w'.cell? ⟨R,1,none⟩=some (cellOf w' ⟨R,1,none⟩)∧w'.cell? ⟨R,2,none⟩=some (cellOf w' ⟨R,2,none⟩)∧w'.cell? ⟨R,3,none⟩=some (cellOf w' ⟨R,3,none⟩)∧w'.cell? ⟨R,4,none⟩=some (cellOf w' ⟨R,4,none⟩)∧w'.cell? ⟨R,5,none⟩=some (cellOf w' ⟨R,5,none⟩)∧w'.cell? ⟨R,6,none⟩=some (cellOf w' ⟨R,6,none⟩)∧w'.cell? ⟨b2,o2+q,none⟩=some (.int .i64 V))
   go_enter Tryz.func95,Tryz.ntmps95
   go_upto_region 1 with fail
   rw [HE.out.1,HE.out.2.1,HE.out.2.2.1,HE.out.2.2.2.1,HE.out.2.2.2.2.1,HE.out.2.2.2.2.2]
   go_upto_region 4 with (first | (go_at_call 136;(with_reducible refine (HI3.out _ HF.out).mono ?_);rintro z w3 ⟨rfl,hb3⟩) | fail)
   have HF3:=zh (HF.out.next hb3)
   have m3:=keeps_below HF3.out.b _ _ _ HM.out
   clear hb3 xc yc rc rf
   go_region_held3 (fun w'=>w'.cell? ⟨X,0,none⟩=some vv∧w'.cell? ⟨X,1,none⟩=some (.slice (some ⟨b,o,none⟩) s.arrs.length c)∧w'.cell? ⟨X,2,none⟩=some vi∧w'.cell? ⟨Y,0,none⟩=some (.int .i64 e.fr)∧w'.cell? ⟨Y,1,none⟩=some (.int .i64 e.dt)∧w'.cell? ⟨Y,2,none⟩=some (.int .i64 e.kd)∧w'.cell? ⟨Y,3,none⟩=some (.int .i64 e.dst)∧w'.cell? ⟨Y,4,none⟩=some (.int .i64 e.arr)∧w'.cell? ⟨Y,5,none⟩=some (.int .i64 e.op)∧w'.cell? ⟨Y,6,none⟩=some (.int .i64 e.av)∧w'.cell? ⟨Y,7,none⟩=some (.int .i64 e.an)∧w'.cell? ⟨Y,8,none⟩=some (.int .i64 e.bv)∧w'.cell? ⟨Y,9,none⟩=some (.int .i64 e.bn)∧w'.frozen? ⟨R,0,none⟩=false∧w'.frozen? ⟨R,1,none⟩=false∧w'.frozen? ⟨R,2,none⟩=false∧w'.frozen? ⟨R,3,none⟩=false∧w'.frozen? ⟨R,4,none⟩=false∧w'.frozen? ⟨R,5,none⟩=false∧w'.frozen? ⟨R,6,none⟩=false∧w'.cell? ⟨R,0,none⟩=some (cellOf w' ⟨R,0,none⟩)∧w'.cell? ⟨R,1,none⟩=some (cellOf w' ⟨R,1,none⟩)∧w'.cell? ⟨R,2,none⟩=some (cellOf w' ⟨R,2,none⟩)∧w'.cell? ⟨R,3,none⟩=some (cellOf w' ⟨R,3,none⟩)∧w'.cell? ⟨R,4,none⟩=some (cellOf w' ⟨R,4,none⟩)∧w'.cell? ⟨R,5,none⟩=some (cellOf w' ⟨R,5,none⟩)∧w'.cell? ⟨R,6,none⟩=some (cellOf w' ⟨R,6,none⟩)∧w'.cell? ⟨b2,o2+q,none⟩=some (.int .i64 V))
    ((with_reducible refine KS _ ?_;repeat (with_reducible (first | exact HF3.out | refine Fdm.drew ?_ | refine Fdm.set ?_ _ _ | refine Fdm.next ?_ hb4 | fail))))
    (first | (go_at_call 128;(with_reducible refine (HG0.out _ (by repeat (with_reducible (first | exact HF3.out | refine Fdm.drew ?_ | refine Fdm.set ?_ _ _ | refine Fdm.next ?_ hb4 | fail)))).mono ?_);rintro z w4 ⟨rfl,hb4⟩))
   all_goals
    have hf4:Fdm w X Y R vv (.slice (some ⟨b,o,none⟩) s.arrs.length c) vi e w4:=(by repeat (with_reducible (first | exact HF3.out | refine Fdm.drew ?_ | refine Fdm.set ?_ _ _ | refine Fdm.next ?_ hb4 | fail)))
    go_wp2_with fail
    refine bodyPost_ret (results_cell_row rfl _ _ R _ (ddC 0 PA V false false 0 false) _ _ rfl (fdm_end hf4 _ _ _ _ _ _ _).1 rfl rfl (by kernel_rfl)) rfl ?_
    exact ⟨rfl,(fdm_end hf4 _ _ _ _ _ _ _).2⟩
theorem ststore_any (vv va vi:Value) (s:Rn) (w:World) (hs:VsAt w s vv va vi) (e:Ed) (he:EdV s e) (hk:e.kd=11) :
    Calls Tryz.prog 96 #[vsV vv va vi,edgeV e] w (DeedTo w e s vv va):=by
 obtain ⟨p,hp⟩:∃ p:Nat,e.arr=p:=⟨e.arr.toNat,by have:=he.arr (by omega);omega⟩
 have hpl:p<s.arrs.length:=by have:=he.arr (by omega);omega
 obtain ⟨b,o,⟨c,rfl⟩,hc1,ua,uc,hu,hur⟩:=row_at hs p hpl
 obtain ⟨W1,X,W2,Y,W3,R,hE,hx,hy,hr,hb,hwX,hXR,hYR,-⟩:=st3 w #[vv,(.slice (some ⟨b,o,none⟩) s.arrs.length c),vi] (edC e) dd0 91 40 166
 have hf:=fdm_of hx hy hr rfl hb hwX hXR hYR hE.2.2.2.1
 have xc:=hx.cell
 have yc:=hy.cell
 have rc:=hr.cell
 have rf:=hr.free
 have HF:=zh hf
 have HE:=zh hE
 clear hx hy hr hb hE hwX hXR hYR hf
 have HIT:=zh (fun W (hb:Fdm w X Y R vv (.slice (some ⟨b,o,none⟩) s.arrs.length c) vi e W)=>stitem_any vv (.slice (some ⟨b,o,none⟩) s.arrs.length c) vi s W (hb.vs hs) e he (by omega))
 have hru:∀ W,Fdm w X Y R vv (.slice (some ⟨b,o,none⟩) s.arrs.length c) vi e W→rowU W (.slice (some ⟨b,o,none⟩) s.arrs.length c) p=.slice ua s.arrs[p].length uc:=fun W hb=>(rowU_next hs hb.b p hpl).trans hu
 have har:arrO s e.arr=s.arrs[p]:=by unfold arrO;rw [hp,Int.toNat_natCast,List.getD_eq_getElem?_getD,List.getElem?_eq_getElem hpl];rfl
 have HVb:=zh (fun W (hb:Fdm w X Y R vv (.slice (some ⟨b,o,none⟩) s.arrs.length c) vi e W)=>stvalue_any vv (.slice (some ⟨b,o,none⟩) s.arrs.length c) vi s W (hb.vs hs).v e.bv e.bn (he.b (by omega)))
 have hdd:ddOf (rowU w (.slice (some ⟨b,o,none⟩) s.arrs.length c)) vv e s=if edVa e s<0∨(s.arrs[p].length:Int)≤edVa e s then ddV 3 none 0 false false 0 false else ddV 0 (plcA (.slice ua s.arrs[p].length uc) (edVa e s).toNat) (edVb e s) false false 0 false:=by
  unfold ddOf
  rw [if_neg (by omega),if_neg (by omega),if_neg (by omega),if_neg (by omega),if_pos hk,har,hp,Int.toNat_natCast,hu]
 unfold DeedTo
 rw [hdd]
 have HI2:=zh (fun W hb=>by have h:=HIT.out W hb;rw [har,hp,Int.toNat_natCast,hru W hb] at h;exact h)
 obtain ⟨A,hA⟩:∃ x,edVa e s=x:=⟨_,rfl⟩
 simp only [hA] at HI2 ⊢
 obtain ⟨B,hB⟩:∃ x,edVb e s=x:=⟨_,rfl⟩
 rw [show valO s e.bv e.bn=B from hB] at HVb
 rw [hB]
 by_cases hbad:A<0∨(s.arrs[p].length:Int)≤A
 · rw [if_pos hbad]
   have HI3:=zh (fun W hb=>by have h:=HI2.out W hb;rw [if_pos hbad] at h;exact h)
   clear hbad hdd hk hs he hru har hu hur hc1 HIT HI2 hp
   go_enter Tryz.func96,Tryz.ntmps96
   go_upto_region 1 with fail
   rw [HE.out.1,HE.out.2.1,HE.out.2.2.1,HE.out.2.2.2.1,HE.out.2.2.2.2.1,HE.out.2.2.2.2.2]
   go_upto_region 2 with (first | (go_at_call 136;(with_reducible refine (HI3.out _ HF.out).mono ?_);rintro z w3 ⟨rfl,hb3⟩) | fail)
   have hf:=HF.out.next hb3
   clear hb3 xc yc rc rf
   have r0:=hf.any (j:=0) (by decide)
   have r1:=hf.any (j:=1) (by decide)
   have r2:=hf.any (j:=2) (by decide)
   have r3:=hf.any (j:=3) (by decide)
   have r4:=hf.any (j:=4) (by decide)
   have r5:=hf.any (j:=5) (by decide)
   have r6:=hf.any (j:=6) (by decide)
   have rf6:=hf.free
   have HFN:=zh hf
   clear hf
   go_wp2_with fail
   refine bodyPost_ret (results_cell_row rfl _ _ R _ (ddC 3 none 0 false false 0 false) _ _ rfl (fdm_end HFN.out _ _ _ _ _ _ _).1 rfl rfl (by kernel_rfl)) rfl ?_
   exact ⟨rfl,(fdm_end HFN.out _ _ _ _ _ _ _).2⟩
 · rw [if_neg hbad]
   obtain ⟨q,rfl⟩:∃ q:Nat,A=q:=⟨A.toNat,by omega⟩
   have hql:q<s.arrs[p].length:=by omega
   obtain ⟨b2,o2,rfl,hc2⟩:=hur.resolve_left (by omega)
   have HI3:=zh (fun W hb=>by have h:=HI2.out W hb;rw [if_neg hbad] at h;exact h)
   have m0:=hc2 q hql
   simp only [Int.toNat_natCast,plcA] at HI3 ⊢
   clear hbad hdd hk hs he hru har hu hc1 HIT HI2 hp hc2 hql hB m0
   go_enter Tryz.func96,Tryz.ntmps96
   go_upto_region 1 with fail
   rw [HE.out.1,HE.out.2.1,HE.out.2.2.1,HE.out.2.2.2.1,HE.out.2.2.2.2.1,HE.out.2.2.2.2.2]
   go_wp2_with (first | (go_at_call 136;(with_reducible refine (HI3.out _ HF.out).mono ?_);rintro z w3 ⟨rfl,hb3⟩;have HF3:=zh (HF.out.next hb3);clear xc yc rc rf;have xc:=HF3.out.x.cell;have yc:=HF3.out.y.cell;clear hb3) | (go_at_call 100;(with_reducible refine (HVb.out _ HF3.out).mono ?_);rintro z w6 ⟨rfl,hb6⟩;have HFN:=zh (HF3.out.next hb6);have r0:=HFN.out.any (j:=0) (by decide);have r1:=HFN.out.any (j:=1) (by decide);have r2:=HFN.out.any (j:=2) (by decide);have r3:=HFN.out.any (j:=3) (by decide);have r4:=HFN.out.any (j:=4) (by decide);have r5:=HFN.out.any (j:=5) (by decide);have r6:=HFN.out.any (j:=6) (by decide);have rf6:=HFN.out.free;clear hb6 xc yc) | fail)
   refine bodyPost_ret (results_cell_row rfl _ _ R _ (ddC 0 (some ⟨b2,o2+q,none⟩) B false false 0 false) _ _ rfl (fdm_end HFN.out _ _ _ _ _ _ _).1 rfl rfl (by kernel_rfl)) rfl ?_
   exact ⟨rfl,(fdm_end HFN.out _ _ _ _ _ _ _).2⟩
abbrev edcA (e:Ed):Array Value:=#[.int .i64 e.fr,.int .i64 e.dt,.int .i64 e.kd,.int .i64 e.dst,.int .i64 e.arr,.int .i64 e.op,.int .i64 e.av,.int .i64 e.an,.int .i64 e.bv,.int .i64 e.bn]
theorem contrary_any (e f:Ed) (w:World):Calls Tryz.prog 127 #[edgeV e,edgeV f] w (fun r w'=>r=.returned (.bool (ctr e f))∧Below w.heap.size w w'):=by
 obtain ⟨W1,hW1⟩:∃ W1,(w.alloc (.cells (edcA e) 40)).alloc (.cells (edcA f) 40)=W1:=⟨_,rfl⟩
 obtain ⟨X,hX⟩:∃ X,w.heap.size=X:=⟨_,rfl⟩
 obtain ⟨Y,hY⟩:∃ Y,(w.alloc (.cells (edcA e) 40)).heap.size=Y:=⟨_,rfl⟩
 have hx:Blk W1 X (edcA e) 40:=by rw [← hW1,← hX];exact (Blk.new w _ _).alloc _
 have hy:Blk W1 Y (edcA f) 40:=by rw [← hW1,← hY];exact Blk.new _ _ _
 have hb1:Below w.heap.size w W1:=by rw [← hW1];exact ((Below.refl _ w).alloc (Nat.le_refl _) _).alloc (by simp) _
 have hXY:X+1=Y:=by rw [← hX,← hY,World.size_alloc]
 have HN:=fun w=>cnot_any e.op w
 have HQA:=fun w=>eq_opnd e.av e.an f.av f.an w
 have HQB:=fun w=>eq_opnd e.bv e.bn f.bv f.bn w
 have hc:ctr e f=(e.kd==12&&f.kd==12&&(e.av==f.av&&e.an==f.an)&&(e.bv==f.bv&&e.bn==f.bn)&&f.op==notI e.op):=rfl
 rw [hc]
 obtain ⟨A,hA⟩:∃ b,(e.av==f.av&&e.an==f.an)=b:=⟨_,rfl⟩
 obtain ⟨B,hB⟩:∃ b,(e.bv==f.bv&&e.bn==f.bn)=b:=⟨_,rfl⟩
 obtain ⟨NO,hNO⟩:∃ n,notI e.op=n:=⟨_,rfl⟩
 rw [hA,hB,hNO]
 rw [hNO] at HN
 simp only [hA] at HQA
 simp only [hB] at HQB
 have KS:=fun w' (hW:Below W1.heap.size W1 w')=>(⟨(hx.below hW hx.lt).cell 2,(hx.below hW hx.lt).cell 5,(hx.below hW hx.lt).cell 6,(hx.below hW hx.lt).cell 7,(hx.below hW hx.lt).cell 8,(hx.below hW hx.lt).cell 9,(hy.below hW hy.lt).cell 2,(hy.below hW hy.lt).cell 5,(hy.below hW hy.lt).cell 6,(hy.below hW hy.lt).cell 7,(hy.below hW hy.lt).cell 8,(hy.below hW hy.lt).cell 9,hW⟩:(fun w'=>w'.cell? ⟨X,2,none⟩=some (.int .i64 e.kd)∧w'.cell? ⟨X,5,none⟩=some (.int .i64 e.op)∧w'.cell? ⟨X,6,none⟩=some (.int .i64 e.av)∧w'.cell? ⟨X,7,none⟩=some (.int .i64 e.an)∧w'.cell? ⟨X,8,none⟩=some (.int .i64 e.bv)∧w'.cell? ⟨X,9,none⟩=some (.int .i64 e.bn)∧w'.cell? ⟨Y,2,none⟩=some (.int .i64 f.kd)∧w'.cell? ⟨Y,5,none⟩=some (.int .i64 f.op)∧w'.cell? ⟨Y,6,none⟩=some (.int .i64 f.av)∧w'.cell? ⟨Y,7,none⟩=some (.int .i64 f.an)∧w'.cell? ⟨Y,8,none⟩=some (.int .i64 f.bv)∧w'.cell? ⟨Y,9,none⟩=some (.int .i64 f.bn)∧Below W1.heap.size W1 w') w')
 have x0:=KS W1 (Below.refl _ W1)
 have H1:=zh hb1
 have HE:=zh (za hW1 (za hX (za hXY hY)))
 clear hx hy hb1 hW1 hX hXY hY hc hA hB hNO
 obtain ⟨b1,h1⟩:∃ b,(e.kd==12)=b:=⟨_,rfl⟩
 obtain ⟨b2,h2⟩:∃ b,(f.kd==12)=b:=⟨_,rfl⟩
 rw [h1,h2]
 have hcase:b1=false∨(b1=true∧b2=false)∨(b1=true∧b2=true∧A=false)∨(b1=true∧b2=true∧A=true∧B=false)∨(b1=true∧b2=true∧A=true∧B=true):=by
  cases b1<;>cases b2<;>cases A<;>cases B<;>simp
 obtain ⟨s0,s1,s2,s3,s4,s5,s6,s7,s8,s9,s10,s11,-⟩:=x0
 rcases hcase with rfl | ⟨rfl,rfl⟩ | ⟨rfl,rfl,rfl⟩ | ⟨rfl,rfl,rfl,rfl⟩ | ⟨rfl,rfl,rfl,rfl⟩
 case inr.inr.inr.inr =>
  go_enter Tryz.func127,Tryz.ntmps127
  go_upto_region 1 with fail
  simp only [HE.out.1,HE.out.2.1,HE.out.2.2.1]
  first | (go_region_held3 (fun w'=>w'.cell? ⟨X,2,none⟩=some (.int .i64 e.kd)∧w'.cell? ⟨X,5,none⟩=some (.int .i64 e.op)∧w'.cell? ⟨X,6,none⟩=some (.int .i64 e.av)∧w'.cell? ⟨X,7,none⟩=some (.int .i64 e.an)∧w'.cell? ⟨X,8,none⟩=some (.int .i64 e.bv)∧w'.cell? ⟨X,9,none⟩=some (.int .i64 e.bn)∧w'.cell? ⟨Y,2,none⟩=some (.int .i64 f.kd)∧w'.cell? ⟨Y,5,none⟩=some (.int .i64 f.op)∧w'.cell? ⟨Y,6,none⟩=some (.int .i64 f.av)∧w'.cell? ⟨Y,7,none⟩=some (.int .i64 f.an)∧w'.cell? ⟨Y,8,none⟩=some (.int .i64 f.bv)∧w'.cell? ⟨Y,9,none⟩=some (.int .i64 f.bn)∧Below W1.heap.size W1 w')
   ((with_reducible refine KS _ ?_;repeat (with_reducible (first | exact Below.refl _ W1 | refine below_drew ?_ | refine below_next ?_ hb2 | fail))))
   (first | (go_at_call 168;(with_reducible refine (HN _).mono ?_);rintro e w2 ⟨rfl,hb2⟩))) | fail
  all_goals (go_wp2_with fail;go_ret;exact ⟨rfl,bel H1.out (by repeat (with_reducible (first | exact Below.refl _ W1 | refine below_drew ?_ | refine below_next ?_ hb2 | fail)))⟩)
 all_goals
  go_enter Tryz.func127,Tryz.ntmps127
  go_upto_region 1 with fail
  simp only [HE.out.1,HE.out.2.1,HE.out.2.2.1]
  go_quiet (fail)
  go_wp2_with fail
  go_ret
  exact ⟨rfl,⟨H1.out.os,H1.out.tape,H1.out.output,H1.out.size,H1.out.block⟩⟩
end Go.Proofs.YtmohmggnjldddaaGreatDoor
