/-
  Package step's machine: its step: proved is that it does what the plain run does at an edge.
-/
import Derived.Test.YtmohmggnjldddaaGreatDoorQStG
import Derived.Deep.RegionLaw
import Derived.Deep.AppendLies
import Derived.Test.YtmohmggnjldddaaGreatDoorQAbb
namespace Go.Proofs.YtmohmggnjldddaaGreatDoor
set_option maxHeartbeats 16000000
set_option maxRecDepth 100000
open Go Go.RowKit Go.Maps
theorem info_evt:(Tryz.prog.info? 100).map (fun i=>(i.zero,i.size,i.bytes))=some (some (.agg #[.bool false,.int .i64 0,.bool false]),3,24):=by kernel_rfl
theorem evt_one (b:Bool) (n:Int) (c:Bool):∀ u ∈ ([.bool b,.int .i64 n,.bool c]:List Value),u.oneCell'=true:=by
 intro u hu
 simp only [List.mem_cons,List.not_mem_nil,or_false] at hu
 rcases hu with rfl | rfl | rfl<;>rfl
theorem below_all {w w':World} (h:Below w.heap.size w w') (o:Obj):Below w.heap.size w (w'.alloc o):=h.alloc h.size o
theorem below_oth {w w':World} (h:Below w.heap.size w w') {Z:Nat} (hz:w.heap.size≤Z) (j:Nat) (u:Value):Below w.heap.size w (w'.setCell ⟨Z,j,none⟩ u):=h.setCell hz u
theorem below_oth7 {w w':World} (h:Below w.heap.size w w') {Z:Nat} (hz:w.heap.size≤Z) (v0 v1 v2 v3 v4 v5 v6:Value):Below w.heap.size w (dput7 w' Z v0 v1 v2 v3 v4 v5 v6):=below_oth (below_oth (below_oth (below_oth (below_oth (below_oth (below_oth h hz 0 v0) hz 1 v1) hz 2 v2) hz 3 v3) hz 4 v4) hz 5 v5) hz 6 v6
def StpTo (K:Ks) (w:World) (p:Nat) (s:Rn) (e:Ed):Ending→World→Prop:=fun z w'=>z=.returned (.tuple #[])∧Kp' K w w'∧∃ sv' ve',if (doE e (tick s)).1=0 then Mk K w' e.dt.toNat 1 0 (doE e (tick s)).2 sv' ve' else Mk K w' p 3 (doE e (tick s)).1 (doE e (tick s)).2 sv' ve'
theorem mstep_any (K:Ks) (hk:K.ok) (w:World) (p:Nat) (s:Rn) (sv ve:Value) (h:Mk K w p 1 0 s sv ve) (e:Ed) (he:e ∈ K.g.es) (hl:e.kd=9→s.left≠[]) (hst:s.steps<65536) :
    Calls Tryz.prog 50 #[.pointer (some ⟨K.M,0,none⟩),edgeV e] w (StpTo K w p s e):=by
 obtain ⟨X,hX⟩:∃ X,w.heap.size=X:=⟨_,rfl⟩
 obtain ⟨W1,hW1⟩:∃ W1,w.alloc (.cells (edC e) 40)=W1:=⟨_,rfl⟩
 have hx1:Blk W1 X (edC e) 40:=by rw [← hW1,← hX];exact Blk.new w _ _
 have hb1:Below w.heap.size w W1:=by rw [← hW1];exact (Below.refl _ w).alloc (Nat.le_refl _) _
 have hm1:=h.next hk hb1
 have hev:=edV_at hk hm1 he
 have hcls:=cls_of (U:=rowU W1 K.va) (vv:=(.slice (some ⟨K.vb,0,none⟩) K.nvt K.nvt)) hev h.fv h.fa hl
 obtain ⟨wr,pl,num,tl,inp,en,hd,hV⟩:=dd_form (rowU W1 K.va) (.slice (some ⟨K.vb,0,none⟩) K.nvt K.nvt) e s
 have hkd:=kd_at hk he
 have HVS:=zh (fun W (hb:Below W1.heap.size W1 W)=>(hm1.next hk hb).vs hk)
 have hrow:∀ W,Below W1.heap.size W1 W→ddOf (rowU W K.va) (.slice (some ⟨K.vb,0,none⟩) K.nvt K.nvt) e s=ddV wr pl num tl inp en hd:=fun W hb=>by
  rw [← hV]
  by_cases h11:e.kd=11
  · unfold ddOf
    have hr:=hev.arr (.inr h11)
    rw [rowU_next (hm1.vs hk) hb e.arr.toNat (by omega)]
  · unfold ddOf
    simp only [if_neg h11]
 have HDD:=zh hrow
 have HH:=zh (za hm1 (za hx1 (za hb1 (za hev (za hl hcls)))))
 have HE:=zh (za hW1 hX)
 have HED:=zh he
 have HSW:=zh h.size
 have HEV:=zh (fun g hg=>h.evs.lt g hg)
 have HV:=zh hV
 have k0:(0:Int)≤e.kd:=by omega
 have k1:e.kd<15:=by omega
 clear hW1 hX hx1 hb1 hm1 hev hl hcls hrow h he hV
 go_enter Tryz.func50,Tryz.ntmps50
 go_upto_region 1 with fail
 rw [HE.out.1,HE.out.2]
 go_cut [4] (fun s4 wx=>∃ Z,s4=.pointer (some ⟨Z,0,none⟩)∧Blk wx Z (ddC wr pl num tl inp en hd) 166∧Below W1.heap.size W1 wx∧W1.heap.size≤Z)
 case first =>
  have hm:=HH.out.1.mach
  have hx:=HH.out.2.1
  have HMX:=zh (za hm hx)
  clear hm hx
  rcases (show e.kd=1∨e.kd=2∨e.kd=3∨e.kd=4∨e.kd=5∨e.kd=6∨e.kd=7∨e.kd=8∨e.kd=9∨e.kd=10∨e.kd=11∨e.kd=12∨e.kd=13∨e.kd=14 by omega) with hk1 | hk1 | hk1 | hk1 | hk1 | hk1 | hk1 | hk1 | hk1 | hk1 | hk1 | hk1 | hk1 | hk1
  · have HC:=zh (fun W (hb:Below W1.heap.size W1 W)=>by have h:=stnothing_any (.slice (some ⟨K.vb,0,none⟩) K.nvt K.nvt) K.va sv s W e (by omega);unfold DeedTo at h;rw [HDD.out W hb] at h;exact h)
    have KS:=fun w' (hW:Below W1.heap.size W1 w')=>(⟨(HMX.out.1.next hW).cell 0,(HMX.out.1.next hW).cell 1,(HMX.out.1.next hW).cell 2,((HMX.out.1.next hW).cell (10+e.kd.toNat)).trans (by rw [hk1];rfl),(HMX.out.2.next hW).cell 0,(HMX.out.2.next hW).cell 1,(HMX.out.2.next hW).cell 2,(HMX.out.2.next hW).cell 3,(HMX.out.2.next hW).cell 4,(HMX.out.2.next hW).cell 5,(HMX.out.2.next hW).cell 6,(HMX.out.2.next hW).cell 7,(HMX.out.2.next hW).cell 8,(HMX.out.2.next hW).cell 9⟩:w'.cell? ⟨K.M,0,none⟩=some (.slice (some ⟨K.vb,0,none⟩) K.nvt K.nvt)∧w'.cell? ⟨K.M,1,none⟩=some K.va∧w'.cell? ⟨K.M,2,none⟩=some sv∧w'.cell? ⟨K.M,10+e.kd.toNat,none⟩=some (.func (.func 86) #[] #[])∧w'.cell? ⟨X,0,none⟩=some (.int .i64 e.fr)∧w'.cell? ⟨X,1,none⟩=some (.int .i64 e.dt)∧w'.cell? ⟨X,2,none⟩=some (.int .i64 e.kd)∧w'.cell? ⟨X,3,none⟩=some (.int .i64 e.dst)∧w'.cell? ⟨X,4,none⟩=some (.int .i64 e.arr)∧w'.cell? ⟨X,5,none⟩=some (.int .i64 e.op)∧w'.cell? ⟨X,6,none⟩=some (.int .i64 e.av)∧w'.cell? ⟨X,7,none⟩=some (.int .i64 e.an)∧w'.cell? ⟨X,8,none⟩=some (.int .i64 e.bv)∧w'.cell? ⟨X,9,none⟩=some (.int .i64 e.bn))
    have hZ0:W1.heap.size≤W1.heap.size:=Nat.le_refl _
    clear hk1
    go_region_held3 (fun w'=>w'.cell? ⟨K.M,0,none⟩=some (.slice (some ⟨K.vb,0,none⟩) K.nvt K.nvt)∧w'.cell? ⟨K.M,1,none⟩=some K.va∧w'.cell? ⟨K.M,2,none⟩=some sv∧w'.cell? ⟨K.M,10+e.kd.toNat,none⟩=some (.func (.func 86) #[] #[])∧w'.cell? ⟨X,0,none⟩=some (.int .i64 e.fr)∧w'.cell? ⟨X,1,none⟩=some (.int .i64 e.dt)∧w'.cell? ⟨X,2,none⟩=some (.int .i64 e.kd)∧w'.cell? ⟨X,3,none⟩=some (.int .i64 e.dst)∧w'.cell? ⟨X,4,none⟩=some (.int .i64 e.arr)∧w'.cell? ⟨X,5,none⟩=some (.int .i64 e.op)∧w'.cell? ⟨X,6,none⟩=some (.int .i64 e.av)∧w'.cell? ⟨X,7,none⟩=some (.int .i64 e.an)∧w'.cell? ⟨X,8,none⟩=some (.int .i64 e.bv)∧w'.cell? ⟨X,9,none⟩=some (.int .i64 e.bn))
     ((with_reducible refine KS _ ?_;repeat (with_reducible (first | exact Below.refl _ _ | refine below_drew ?_ | refine below_all ?_ _ | refine below_oth ?_ hZ0 _ _ | refine below_oth ?_ hZ1 _ _ | refine below_next ?_ hb4 | fail))))
     (first | (go_at_call 86;(with_reducible refine (HC.out _ (by repeat (with_reducible (first | exact Below.refl _ _ | refine below_drew ?_ | refine below_all ?_ _ | refine below_oth ?_ hZ0 _ _ | refine below_oth ?_ hZ1 _ _ | refine below_next ?_ hb4 | fail)))).mono ?_);rintro z w4 ⟨rfl,hb4⟩;(first | (have qb:Blk w4 W1.heap.size dd0 166:=(Blk.new W1.drew dd0 166).next hb4;have f0:=qb.free 0;have c0:=qb.cell 0;have f1:=qb.free 1;have c1:=qb.cell 1;have f2:=qb.free 2;have c2:=qb.cell 2;have f3:=qb.free 3;have c3:=qb.cell 3;have f4:=qb.free 4;have c4:=qb.cell 4;have f5:=qb.free 5;have c5:=qb.cell 5;have f6:=qb.free 6;have c6:=qb.cell 6; skip) | (have hZ1:W1.heap.size≤w4.heap.size:=hb4.size))))
    all_goals
     go_wp2_with fail
     go_meet
     first
      | exact ⟨_,rfl,dput7_blk qb _ _ _ _ _ _ _,below_oth7 (by repeat (with_reducible (first | exact Below.refl _ _ | refine below_drew ?_ | refine below_all ?_ _ | refine below_oth ?_ hZ0 _ _ | refine below_oth ?_ hZ1 _ _ | refine below_next ?_ hb4 | fail))) (Nat.le_refl _) _ _ _ _ _ _ _,Nat.le_refl _⟩
      | exact ⟨_,rfl,Blk.new w4 _ _,below_all (by repeat (with_reducible (first | exact Below.refl _ _ | refine below_drew ?_ | refine below_all ?_ _ | refine below_oth ?_ hZ0 _ _ | refine below_oth ?_ hZ1 _ _ | refine below_next ?_ hb4 | fail))) _,hZ1⟩
  · have HC:=zh (fun W (hb:Below W1.heap.size W1 W)=>by have h:=stcopy_any (.slice (some ⟨K.vb,0,none⟩) K.nvt K.nvt) K.va sv s W (HVS.out W hb) e HH.out.2.2.2.1 hk1;unfold DeedTo at h;rw [HDD.out W hb] at h;exact h)
    have KS:=fun w' (hW:Below W1.heap.size W1 w')=>(⟨(HMX.out.1.next hW).cell 0,(HMX.out.1.next hW).cell 1,(HMX.out.1.next hW).cell 2,((HMX.out.1.next hW).cell (10+e.kd.toNat)).trans (by rw [hk1];rfl),(HMX.out.2.next hW).cell 0,(HMX.out.2.next hW).cell 1,(HMX.out.2.next hW).cell 2,(HMX.out.2.next hW).cell 3,(HMX.out.2.next hW).cell 4,(HMX.out.2.next hW).cell 5,(HMX.out.2.next hW).cell 6,(HMX.out.2.next hW).cell 7,(HMX.out.2.next hW).cell 8,(HMX.out.2.next hW).cell 9⟩:w'.cell? ⟨K.M,0,none⟩=some (.slice (some ⟨K.vb,0,none⟩) K.nvt K.nvt)∧w'.cell? ⟨K.M,1,none⟩=some K.va∧w'.cell? ⟨K.M,2,none⟩=some sv∧w'.cell? ⟨K.M,10+e.kd.toNat,none⟩=some (.func (.func 87) #[] #[])∧w'.cell? ⟨X,0,none⟩=some (.int .i64 e.fr)∧w'.cell? ⟨X,1,none⟩=some (.int .i64 e.dt)∧w'.cell? ⟨X,2,none⟩=some (.int .i64 e.kd)∧w'.cell? ⟨X,3,none⟩=some (.int .i64 e.dst)∧w'.cell? ⟨X,4,none⟩=some (.int .i64 e.arr)∧w'.cell? ⟨X,5,none⟩=some (.int .i64 e.op)∧w'.cell? ⟨X,6,none⟩=some (.int .i64 e.av)∧w'.cell? ⟨X,7,none⟩=some (.int .i64 e.an)∧w'.cell? ⟨X,8,none⟩=some (.int .i64 e.bv)∧w'.cell? ⟨X,9,none⟩=some (.int .i64 e.bn))
    have hZ0:W1.heap.size≤W1.heap.size:=Nat.le_refl _
    clear hk1
    go_region_held3 (fun w'=>w'.cell? ⟨K.M,0,none⟩=some (.slice (some ⟨K.vb,0,none⟩) K.nvt K.nvt)∧w'.cell? ⟨K.M,1,none⟩=some K.va∧w'.cell? ⟨K.M,2,none⟩=some sv∧w'.cell? ⟨K.M,10+e.kd.toNat,none⟩=some (.func (.func 87) #[] #[])∧w'.cell? ⟨X,0,none⟩=some (.int .i64 e.fr)∧w'.cell? ⟨X,1,none⟩=some (.int .i64 e.dt)∧w'.cell? ⟨X,2,none⟩=some (.int .i64 e.kd)∧w'.cell? ⟨X,3,none⟩=some (.int .i64 e.dst)∧w'.cell? ⟨X,4,none⟩=some (.int .i64 e.arr)∧w'.cell? ⟨X,5,none⟩=some (.int .i64 e.op)∧w'.cell? ⟨X,6,none⟩=some (.int .i64 e.av)∧w'.cell? ⟨X,7,none⟩=some (.int .i64 e.an)∧w'.cell? ⟨X,8,none⟩=some (.int .i64 e.bv)∧w'.cell? ⟨X,9,none⟩=some (.int .i64 e.bn))
     ((with_reducible refine KS _ ?_;repeat (with_reducible (first | exact Below.refl _ _ | refine below_drew ?_ | refine below_all ?_ _ | refine below_oth ?_ hZ0 _ _ | refine below_oth ?_ hZ1 _ _ | refine below_next ?_ hb4 | fail))))
     (first | (go_at_call 87;(with_reducible refine (HC.out _ (by repeat (with_reducible (first | exact Below.refl _ _ | refine below_drew ?_ | refine below_all ?_ _ | refine below_oth ?_ hZ0 _ _ | refine below_oth ?_ hZ1 _ _ | refine below_next ?_ hb4 | fail)))).mono ?_);rintro z w4 ⟨rfl,hb4⟩;(first | (have qb:Blk w4 W1.heap.size dd0 166:=(Blk.new W1.drew dd0 166).next hb4;have f0:=qb.free 0;have c0:=qb.cell 0;have f1:=qb.free 1;have c1:=qb.cell 1;have f2:=qb.free 2;have c2:=qb.cell 2;have f3:=qb.free 3;have c3:=qb.cell 3;have f4:=qb.free 4;have c4:=qb.cell 4;have f5:=qb.free 5;have c5:=qb.cell 5;have f6:=qb.free 6;have c6:=qb.cell 6; skip) | (have hZ1:W1.heap.size≤w4.heap.size:=hb4.size))))
    all_goals
     go_wp2_with fail
     go_meet
     first
      | exact ⟨_,rfl,dput7_blk qb _ _ _ _ _ _ _,below_oth7 (by repeat (with_reducible (first | exact Below.refl _ _ | refine below_drew ?_ | refine below_all ?_ _ | refine below_oth ?_ hZ0 _ _ | refine below_oth ?_ hZ1 _ _ | refine below_next ?_ hb4 | fail))) (Nat.le_refl _) _ _ _ _ _ _ _,Nat.le_refl _⟩
      | exact ⟨_,rfl,Blk.new w4 _ _,below_all (by repeat (with_reducible (first | exact Below.refl _ _ | refine below_drew ?_ | refine below_all ?_ _ | refine below_oth ?_ hZ0 _ _ | refine below_oth ?_ hZ1 _ _ | refine below_next ?_ hb4 | fail))) _,hZ1⟩
  · have HC:=zh (fun W (hb:Below W1.heap.size W1 W)=>by have h:=stneg_any (.slice (some ⟨K.vb,0,none⟩) K.nvt K.nvt) K.va sv s W (HVS.out W hb) e HH.out.2.2.2.1 hk1;unfold DeedTo at h;rw [HDD.out W hb] at h;exact h)
    have KS:=fun w' (hW:Below W1.heap.size W1 w')=>(⟨(HMX.out.1.next hW).cell 0,(HMX.out.1.next hW).cell 1,(HMX.out.1.next hW).cell 2,((HMX.out.1.next hW).cell (10+e.kd.toNat)).trans (by rw [hk1];rfl),(HMX.out.2.next hW).cell 0,(HMX.out.2.next hW).cell 1,(HMX.out.2.next hW).cell 2,(HMX.out.2.next hW).cell 3,(HMX.out.2.next hW).cell 4,(HMX.out.2.next hW).cell 5,(HMX.out.2.next hW).cell 6,(HMX.out.2.next hW).cell 7,(HMX.out.2.next hW).cell 8,(HMX.out.2.next hW).cell 9⟩:w'.cell? ⟨K.M,0,none⟩=some (.slice (some ⟨K.vb,0,none⟩) K.nvt K.nvt)∧w'.cell? ⟨K.M,1,none⟩=some K.va∧w'.cell? ⟨K.M,2,none⟩=some sv∧w'.cell? ⟨K.M,10+e.kd.toNat,none⟩=some (.func (.func 88) #[] #[])∧w'.cell? ⟨X,0,none⟩=some (.int .i64 e.fr)∧w'.cell? ⟨X,1,none⟩=some (.int .i64 e.dt)∧w'.cell? ⟨X,2,none⟩=some (.int .i64 e.kd)∧w'.cell? ⟨X,3,none⟩=some (.int .i64 e.dst)∧w'.cell? ⟨X,4,none⟩=some (.int .i64 e.arr)∧w'.cell? ⟨X,5,none⟩=some (.int .i64 e.op)∧w'.cell? ⟨X,6,none⟩=some (.int .i64 e.av)∧w'.cell? ⟨X,7,none⟩=some (.int .i64 e.an)∧w'.cell? ⟨X,8,none⟩=some (.int .i64 e.bv)∧w'.cell? ⟨X,9,none⟩=some (.int .i64 e.bn))
    have hZ0:W1.heap.size≤W1.heap.size:=Nat.le_refl _
    clear hk1
    go_region_held3 (fun w'=>w'.cell? ⟨K.M,0,none⟩=some (.slice (some ⟨K.vb,0,none⟩) K.nvt K.nvt)∧w'.cell? ⟨K.M,1,none⟩=some K.va∧w'.cell? ⟨K.M,2,none⟩=some sv∧w'.cell? ⟨K.M,10+e.kd.toNat,none⟩=some (.func (.func 88) #[] #[])∧w'.cell? ⟨X,0,none⟩=some (.int .i64 e.fr)∧w'.cell? ⟨X,1,none⟩=some (.int .i64 e.dt)∧w'.cell? ⟨X,2,none⟩=some (.int .i64 e.kd)∧w'.cell? ⟨X,3,none⟩=some (.int .i64 e.dst)∧w'.cell? ⟨X,4,none⟩=some (.int .i64 e.arr)∧w'.cell? ⟨X,5,none⟩=some (.int .i64 e.op)∧w'.cell? ⟨X,6,none⟩=some (.int .i64 e.av)∧w'.cell? ⟨X,7,none⟩=some (.int .i64 e.an)∧w'.cell? ⟨X,8,none⟩=some (.int .i64 e.bv)∧w'.cell? ⟨X,9,none⟩=some (.int .i64 e.bn))
     ((with_reducible refine KS _ ?_;repeat (with_reducible (first | exact Below.refl _ _ | refine below_drew ?_ | refine below_all ?_ _ | refine below_oth ?_ hZ0 _ _ | refine below_oth ?_ hZ1 _ _ | refine below_next ?_ hb4 | fail))))
     (first | (go_at_call 88;(with_reducible refine (HC.out _ (by repeat (with_reducible (first | exact Below.refl _ _ | refine below_drew ?_ | refine below_all ?_ _ | refine below_oth ?_ hZ0 _ _ | refine below_oth ?_ hZ1 _ _ | refine below_next ?_ hb4 | fail)))).mono ?_);rintro z w4 ⟨rfl,hb4⟩;(first | (have qb:Blk w4 W1.heap.size dd0 166:=(Blk.new W1.drew dd0 166).next hb4;have f0:=qb.free 0;have c0:=qb.cell 0;have f1:=qb.free 1;have c1:=qb.cell 1;have f2:=qb.free 2;have c2:=qb.cell 2;have f3:=qb.free 3;have c3:=qb.cell 3;have f4:=qb.free 4;have c4:=qb.cell 4;have f5:=qb.free 5;have c5:=qb.cell 5;have f6:=qb.free 6;have c6:=qb.cell 6; skip) | (have hZ1:W1.heap.size≤w4.heap.size:=hb4.size))))
    all_goals
     go_wp2_with fail
     go_meet
     first
      | exact ⟨_,rfl,dput7_blk qb _ _ _ _ _ _ _,below_oth7 (by repeat (with_reducible (first | exact Below.refl _ _ | refine below_drew ?_ | refine below_all ?_ _ | refine below_oth ?_ hZ0 _ _ | refine below_oth ?_ hZ1 _ _ | refine below_next ?_ hb4 | fail))) (Nat.le_refl _) _ _ _ _ _ _ _,Nat.le_refl _⟩
      | exact ⟨_,rfl,Blk.new w4 _ _,below_all (by repeat (with_reducible (first | exact Below.refl _ _ | refine below_drew ?_ | refine below_all ?_ _ | refine below_oth ?_ hZ0 _ _ | refine below_oth ?_ hZ1 _ _ | refine below_next ?_ hb4 | fail))) _,hZ1⟩
  · have HC:=zh (fun W (hb:Below W1.heap.size W1 W)=>by have h:=stadd_any (.slice (some ⟨K.vb,0,none⟩) K.nvt K.nvt) K.va sv s W (HVS.out W hb) e HH.out.2.2.2.1 hk1;unfold DeedTo at h;rw [HDD.out W hb] at h;exact h)
    have KS:=fun w' (hW:Below W1.heap.size W1 w')=>(⟨(HMX.out.1.next hW).cell 0,(HMX.out.1.next hW).cell 1,(HMX.out.1.next hW).cell 2,((HMX.out.1.next hW).cell (10+e.kd.toNat)).trans (by rw [hk1];rfl),(HMX.out.2.next hW).cell 0,(HMX.out.2.next hW).cell 1,(HMX.out.2.next hW).cell 2,(HMX.out.2.next hW).cell 3,(HMX.out.2.next hW).cell 4,(HMX.out.2.next hW).cell 5,(HMX.out.2.next hW).cell 6,(HMX.out.2.next hW).cell 7,(HMX.out.2.next hW).cell 8,(HMX.out.2.next hW).cell 9⟩:w'.cell? ⟨K.M,0,none⟩=some (.slice (some ⟨K.vb,0,none⟩) K.nvt K.nvt)∧w'.cell? ⟨K.M,1,none⟩=some K.va∧w'.cell? ⟨K.M,2,none⟩=some sv∧w'.cell? ⟨K.M,10+e.kd.toNat,none⟩=some (.func (.func 89) #[] #[])∧w'.cell? ⟨X,0,none⟩=some (.int .i64 e.fr)∧w'.cell? ⟨X,1,none⟩=some (.int .i64 e.dt)∧w'.cell? ⟨X,2,none⟩=some (.int .i64 e.kd)∧w'.cell? ⟨X,3,none⟩=some (.int .i64 e.dst)∧w'.cell? ⟨X,4,none⟩=some (.int .i64 e.arr)∧w'.cell? ⟨X,5,none⟩=some (.int .i64 e.op)∧w'.cell? ⟨X,6,none⟩=some (.int .i64 e.av)∧w'.cell? ⟨X,7,none⟩=some (.int .i64 e.an)∧w'.cell? ⟨X,8,none⟩=some (.int .i64 e.bv)∧w'.cell? ⟨X,9,none⟩=some (.int .i64 e.bn))
    have hZ0:W1.heap.size≤W1.heap.size:=Nat.le_refl _
    clear hk1
    go_region_held3 (fun w'=>w'.cell? ⟨K.M,0,none⟩=some (.slice (some ⟨K.vb,0,none⟩) K.nvt K.nvt)∧w'.cell? ⟨K.M,1,none⟩=some K.va∧w'.cell? ⟨K.M,2,none⟩=some sv∧w'.cell? ⟨K.M,10+e.kd.toNat,none⟩=some (.func (.func 89) #[] #[])∧w'.cell? ⟨X,0,none⟩=some (.int .i64 e.fr)∧w'.cell? ⟨X,1,none⟩=some (.int .i64 e.dt)∧w'.cell? ⟨X,2,none⟩=some (.int .i64 e.kd)∧w'.cell? ⟨X,3,none⟩=some (.int .i64 e.dst)∧w'.cell? ⟨X,4,none⟩=some (.int .i64 e.arr)∧w'.cell? ⟨X,5,none⟩=some (.int .i64 e.op)∧w'.cell? ⟨X,6,none⟩=some (.int .i64 e.av)∧w'.cell? ⟨X,7,none⟩=some (.int .i64 e.an)∧w'.cell? ⟨X,8,none⟩=some (.int .i64 e.bv)∧w'.cell? ⟨X,9,none⟩=some (.int .i64 e.bn))
     ((with_reducible refine KS _ ?_;repeat (with_reducible (first | exact Below.refl _ _ | refine below_drew ?_ | refine below_all ?_ _ | refine below_oth ?_ hZ0 _ _ | refine below_oth ?_ hZ1 _ _ | refine below_next ?_ hb4 | fail))))
     (first | (go_at_call 89;(with_reducible refine (HC.out _ (by repeat (with_reducible (first | exact Below.refl _ _ | refine below_drew ?_ | refine below_all ?_ _ | refine below_oth ?_ hZ0 _ _ | refine below_oth ?_ hZ1 _ _ | refine below_next ?_ hb4 | fail)))).mono ?_);rintro z w4 ⟨rfl,hb4⟩;(first | (have qb:Blk w4 W1.heap.size dd0 166:=(Blk.new W1.drew dd0 166).next hb4;have f0:=qb.free 0;have c0:=qb.cell 0;have f1:=qb.free 1;have c1:=qb.cell 1;have f2:=qb.free 2;have c2:=qb.cell 2;have f3:=qb.free 3;have c3:=qb.cell 3;have f4:=qb.free 4;have c4:=qb.cell 4;have f5:=qb.free 5;have c5:=qb.cell 5;have f6:=qb.free 6;have c6:=qb.cell 6; skip) | (have hZ1:W1.heap.size≤w4.heap.size:=hb4.size))))
    all_goals
     go_wp2_with fail
     go_meet
     first
      | exact ⟨_,rfl,dput7_blk qb _ _ _ _ _ _ _,below_oth7 (by repeat (with_reducible (first | exact Below.refl _ _ | refine below_drew ?_ | refine below_all ?_ _ | refine below_oth ?_ hZ0 _ _ | refine below_oth ?_ hZ1 _ _ | refine below_next ?_ hb4 | fail))) (Nat.le_refl _) _ _ _ _ _ _ _,Nat.le_refl _⟩
      | exact ⟨_,rfl,Blk.new w4 _ _,below_all (by repeat (with_reducible (first | exact Below.refl _ _ | refine below_drew ?_ | refine below_all ?_ _ | refine below_oth ?_ hZ0 _ _ | refine below_oth ?_ hZ1 _ _ | refine below_next ?_ hb4 | fail))) _,hZ1⟩
  · have HC:=zh (fun W (hb:Below W1.heap.size W1 W)=>by have h:=stsub_any (.slice (some ⟨K.vb,0,none⟩) K.nvt K.nvt) K.va sv s W (HVS.out W hb) e HH.out.2.2.2.1 hk1;unfold DeedTo at h;rw [HDD.out W hb] at h;exact h)
    have KS:=fun w' (hW:Below W1.heap.size W1 w')=>(⟨(HMX.out.1.next hW).cell 0,(HMX.out.1.next hW).cell 1,(HMX.out.1.next hW).cell 2,((HMX.out.1.next hW).cell (10+e.kd.toNat)).trans (by rw [hk1];rfl),(HMX.out.2.next hW).cell 0,(HMX.out.2.next hW).cell 1,(HMX.out.2.next hW).cell 2,(HMX.out.2.next hW).cell 3,(HMX.out.2.next hW).cell 4,(HMX.out.2.next hW).cell 5,(HMX.out.2.next hW).cell 6,(HMX.out.2.next hW).cell 7,(HMX.out.2.next hW).cell 8,(HMX.out.2.next hW).cell 9⟩:w'.cell? ⟨K.M,0,none⟩=some (.slice (some ⟨K.vb,0,none⟩) K.nvt K.nvt)∧w'.cell? ⟨K.M,1,none⟩=some K.va∧w'.cell? ⟨K.M,2,none⟩=some sv∧w'.cell? ⟨K.M,10+e.kd.toNat,none⟩=some (.func (.func 90) #[] #[])∧w'.cell? ⟨X,0,none⟩=some (.int .i64 e.fr)∧w'.cell? ⟨X,1,none⟩=some (.int .i64 e.dt)∧w'.cell? ⟨X,2,none⟩=some (.int .i64 e.kd)∧w'.cell? ⟨X,3,none⟩=some (.int .i64 e.dst)∧w'.cell? ⟨X,4,none⟩=some (.int .i64 e.arr)∧w'.cell? ⟨X,5,none⟩=some (.int .i64 e.op)∧w'.cell? ⟨X,6,none⟩=some (.int .i64 e.av)∧w'.cell? ⟨X,7,none⟩=some (.int .i64 e.an)∧w'.cell? ⟨X,8,none⟩=some (.int .i64 e.bv)∧w'.cell? ⟨X,9,none⟩=some (.int .i64 e.bn))
    have hZ0:W1.heap.size≤W1.heap.size:=Nat.le_refl _
    clear hk1
    go_region_held3 (fun w'=>w'.cell? ⟨K.M,0,none⟩=some (.slice (some ⟨K.vb,0,none⟩) K.nvt K.nvt)∧w'.cell? ⟨K.M,1,none⟩=some K.va∧w'.cell? ⟨K.M,2,none⟩=some sv∧w'.cell? ⟨K.M,10+e.kd.toNat,none⟩=some (.func (.func 90) #[] #[])∧w'.cell? ⟨X,0,none⟩=some (.int .i64 e.fr)∧w'.cell? ⟨X,1,none⟩=some (.int .i64 e.dt)∧w'.cell? ⟨X,2,none⟩=some (.int .i64 e.kd)∧w'.cell? ⟨X,3,none⟩=some (.int .i64 e.dst)∧w'.cell? ⟨X,4,none⟩=some (.int .i64 e.arr)∧w'.cell? ⟨X,5,none⟩=some (.int .i64 e.op)∧w'.cell? ⟨X,6,none⟩=some (.int .i64 e.av)∧w'.cell? ⟨X,7,none⟩=some (.int .i64 e.an)∧w'.cell? ⟨X,8,none⟩=some (.int .i64 e.bv)∧w'.cell? ⟨X,9,none⟩=some (.int .i64 e.bn))
     ((with_reducible refine KS _ ?_;repeat (with_reducible (first | exact Below.refl _ _ | refine below_drew ?_ | refine below_all ?_ _ | refine below_oth ?_ hZ0 _ _ | refine below_oth ?_ hZ1 _ _ | refine below_next ?_ hb4 | fail))))
     (first | (go_at_call 90;(with_reducible refine (HC.out _ (by repeat (with_reducible (first | exact Below.refl _ _ | refine below_drew ?_ | refine below_all ?_ _ | refine below_oth ?_ hZ0 _ _ | refine below_oth ?_ hZ1 _ _ | refine below_next ?_ hb4 | fail)))).mono ?_);rintro z w4 ⟨rfl,hb4⟩;(first | (have qb:Blk w4 W1.heap.size dd0 166:=(Blk.new W1.drew dd0 166).next hb4;have f0:=qb.free 0;have c0:=qb.cell 0;have f1:=qb.free 1;have c1:=qb.cell 1;have f2:=qb.free 2;have c2:=qb.cell 2;have f3:=qb.free 3;have c3:=qb.cell 3;have f4:=qb.free 4;have c4:=qb.cell 4;have f5:=qb.free 5;have c5:=qb.cell 5;have f6:=qb.free 6;have c6:=qb.cell 6; skip) | (have hZ1:W1.heap.size≤w4.heap.size:=hb4.size))))
    all_goals
     go_wp2_with fail
     go_meet
     first
      | exact ⟨_,rfl,dput7_blk qb _ _ _ _ _ _ _,below_oth7 (by repeat (with_reducible (first | exact Below.refl _ _ | refine below_drew ?_ | refine below_all ?_ _ | refine below_oth ?_ hZ0 _ _ | refine below_oth ?_ hZ1 _ _ | refine below_next ?_ hb4 | fail))) (Nat.le_refl _) _ _ _ _ _ _ _,Nat.le_refl _⟩
      | exact ⟨_,rfl,Blk.new w4 _ _,below_all (by repeat (with_reducible (first | exact Below.refl _ _ | refine below_drew ?_ | refine below_all ?_ _ | refine below_oth ?_ hZ0 _ _ | refine below_oth ?_ hZ1 _ _ | refine below_next ?_ hb4 | fail))) _,hZ1⟩
  · have HC:=zh (fun W (hb:Below W1.heap.size W1 W)=>by have h:=stmul_any (.slice (some ⟨K.vb,0,none⟩) K.nvt K.nvt) K.va sv s W (HVS.out W hb) e HH.out.2.2.2.1 hk1;unfold DeedTo at h;rw [HDD.out W hb] at h;exact h)
    have KS:=fun w' (hW:Below W1.heap.size W1 w')=>(⟨(HMX.out.1.next hW).cell 0,(HMX.out.1.next hW).cell 1,(HMX.out.1.next hW).cell 2,((HMX.out.1.next hW).cell (10+e.kd.toNat)).trans (by rw [hk1];rfl),(HMX.out.2.next hW).cell 0,(HMX.out.2.next hW).cell 1,(HMX.out.2.next hW).cell 2,(HMX.out.2.next hW).cell 3,(HMX.out.2.next hW).cell 4,(HMX.out.2.next hW).cell 5,(HMX.out.2.next hW).cell 6,(HMX.out.2.next hW).cell 7,(HMX.out.2.next hW).cell 8,(HMX.out.2.next hW).cell 9⟩:w'.cell? ⟨K.M,0,none⟩=some (.slice (some ⟨K.vb,0,none⟩) K.nvt K.nvt)∧w'.cell? ⟨K.M,1,none⟩=some K.va∧w'.cell? ⟨K.M,2,none⟩=some sv∧w'.cell? ⟨K.M,10+e.kd.toNat,none⟩=some (.func (.func 91) #[] #[])∧w'.cell? ⟨X,0,none⟩=some (.int .i64 e.fr)∧w'.cell? ⟨X,1,none⟩=some (.int .i64 e.dt)∧w'.cell? ⟨X,2,none⟩=some (.int .i64 e.kd)∧w'.cell? ⟨X,3,none⟩=some (.int .i64 e.dst)∧w'.cell? ⟨X,4,none⟩=some (.int .i64 e.arr)∧w'.cell? ⟨X,5,none⟩=some (.int .i64 e.op)∧w'.cell? ⟨X,6,none⟩=some (.int .i64 e.av)∧w'.cell? ⟨X,7,none⟩=some (.int .i64 e.an)∧w'.cell? ⟨X,8,none⟩=some (.int .i64 e.bv)∧w'.cell? ⟨X,9,none⟩=some (.int .i64 e.bn))
    have hZ0:W1.heap.size≤W1.heap.size:=Nat.le_refl _
    clear hk1
    go_region_held3 (fun w'=>w'.cell? ⟨K.M,0,none⟩=some (.slice (some ⟨K.vb,0,none⟩) K.nvt K.nvt)∧w'.cell? ⟨K.M,1,none⟩=some K.va∧w'.cell? ⟨K.M,2,none⟩=some sv∧w'.cell? ⟨K.M,10+e.kd.toNat,none⟩=some (.func (.func 91) #[] #[])∧w'.cell? ⟨X,0,none⟩=some (.int .i64 e.fr)∧w'.cell? ⟨X,1,none⟩=some (.int .i64 e.dt)∧w'.cell? ⟨X,2,none⟩=some (.int .i64 e.kd)∧w'.cell? ⟨X,3,none⟩=some (.int .i64 e.dst)∧w'.cell? ⟨X,4,none⟩=some (.int .i64 e.arr)∧w'.cell? ⟨X,5,none⟩=some (.int .i64 e.op)∧w'.cell? ⟨X,6,none⟩=some (.int .i64 e.av)∧w'.cell? ⟨X,7,none⟩=some (.int .i64 e.an)∧w'.cell? ⟨X,8,none⟩=some (.int .i64 e.bv)∧w'.cell? ⟨X,9,none⟩=some (.int .i64 e.bn))
     ((with_reducible refine KS _ ?_;repeat (with_reducible (first | exact Below.refl _ _ | refine below_drew ?_ | refine below_all ?_ _ | refine below_oth ?_ hZ0 _ _ | refine below_oth ?_ hZ1 _ _ | refine below_next ?_ hb4 | fail))))
     (first | (go_at_call 91;(with_reducible refine (HC.out _ (by repeat (with_reducible (first | exact Below.refl _ _ | refine below_drew ?_ | refine below_all ?_ _ | refine below_oth ?_ hZ0 _ _ | refine below_oth ?_ hZ1 _ _ | refine below_next ?_ hb4 | fail)))).mono ?_);rintro z w4 ⟨rfl,hb4⟩;(first | (have qb:Blk w4 W1.heap.size dd0 166:=(Blk.new W1.drew dd0 166).next hb4;have f0:=qb.free 0;have c0:=qb.cell 0;have f1:=qb.free 1;have c1:=qb.cell 1;have f2:=qb.free 2;have c2:=qb.cell 2;have f3:=qb.free 3;have c3:=qb.cell 3;have f4:=qb.free 4;have c4:=qb.cell 4;have f5:=qb.free 5;have c5:=qb.cell 5;have f6:=qb.free 6;have c6:=qb.cell 6; skip) | (have hZ1:W1.heap.size≤w4.heap.size:=hb4.size))))
    all_goals
     go_wp2_with fail
     go_meet
     first
      | exact ⟨_,rfl,dput7_blk qb _ _ _ _ _ _ _,below_oth7 (by repeat (with_reducible (first | exact Below.refl _ _ | refine below_drew ?_ | refine below_all ?_ _ | refine below_oth ?_ hZ0 _ _ | refine below_oth ?_ hZ1 _ _ | refine below_next ?_ hb4 | fail))) (Nat.le_refl _) _ _ _ _ _ _ _,Nat.le_refl _⟩
      | exact ⟨_,rfl,Blk.new w4 _ _,below_all (by repeat (with_reducible (first | exact Below.refl _ _ | refine below_drew ?_ | refine below_all ?_ _ | refine below_oth ?_ hZ0 _ _ | refine below_oth ?_ hZ1 _ _ | refine below_next ?_ hb4 | fail))) _,hZ1⟩
  · have HC:=zh (fun W (hb:Below W1.heap.size W1 W)=>by have h:=stdiv_any (.slice (some ⟨K.vb,0,none⟩) K.nvt K.nvt) K.va sv s W (HVS.out W hb) e HH.out.2.2.2.1 hk1;unfold DeedTo at h;rw [HDD.out W hb] at h;exact h)
    have KS:=fun w' (hW:Below W1.heap.size W1 w')=>(⟨(HMX.out.1.next hW).cell 0,(HMX.out.1.next hW).cell 1,(HMX.out.1.next hW).cell 2,((HMX.out.1.next hW).cell (10+e.kd.toNat)).trans (by rw [hk1];rfl),(HMX.out.2.next hW).cell 0,(HMX.out.2.next hW).cell 1,(HMX.out.2.next hW).cell 2,(HMX.out.2.next hW).cell 3,(HMX.out.2.next hW).cell 4,(HMX.out.2.next hW).cell 5,(HMX.out.2.next hW).cell 6,(HMX.out.2.next hW).cell 7,(HMX.out.2.next hW).cell 8,(HMX.out.2.next hW).cell 9⟩:w'.cell? ⟨K.M,0,none⟩=some (.slice (some ⟨K.vb,0,none⟩) K.nvt K.nvt)∧w'.cell? ⟨K.M,1,none⟩=some K.va∧w'.cell? ⟨K.M,2,none⟩=some sv∧w'.cell? ⟨K.M,10+e.kd.toNat,none⟩=some (.func (.func 92) #[] #[])∧w'.cell? ⟨X,0,none⟩=some (.int .i64 e.fr)∧w'.cell? ⟨X,1,none⟩=some (.int .i64 e.dt)∧w'.cell? ⟨X,2,none⟩=some (.int .i64 e.kd)∧w'.cell? ⟨X,3,none⟩=some (.int .i64 e.dst)∧w'.cell? ⟨X,4,none⟩=some (.int .i64 e.arr)∧w'.cell? ⟨X,5,none⟩=some (.int .i64 e.op)∧w'.cell? ⟨X,6,none⟩=some (.int .i64 e.av)∧w'.cell? ⟨X,7,none⟩=some (.int .i64 e.an)∧w'.cell? ⟨X,8,none⟩=some (.int .i64 e.bv)∧w'.cell? ⟨X,9,none⟩=some (.int .i64 e.bn))
    have hZ0:W1.heap.size≤W1.heap.size:=Nat.le_refl _
    clear hk1
    go_region_held3 (fun w'=>w'.cell? ⟨K.M,0,none⟩=some (.slice (some ⟨K.vb,0,none⟩) K.nvt K.nvt)∧w'.cell? ⟨K.M,1,none⟩=some K.va∧w'.cell? ⟨K.M,2,none⟩=some sv∧w'.cell? ⟨K.M,10+e.kd.toNat,none⟩=some (.func (.func 92) #[] #[])∧w'.cell? ⟨X,0,none⟩=some (.int .i64 e.fr)∧w'.cell? ⟨X,1,none⟩=some (.int .i64 e.dt)∧w'.cell? ⟨X,2,none⟩=some (.int .i64 e.kd)∧w'.cell? ⟨X,3,none⟩=some (.int .i64 e.dst)∧w'.cell? ⟨X,4,none⟩=some (.int .i64 e.arr)∧w'.cell? ⟨X,5,none⟩=some (.int .i64 e.op)∧w'.cell? ⟨X,6,none⟩=some (.int .i64 e.av)∧w'.cell? ⟨X,7,none⟩=some (.int .i64 e.an)∧w'.cell? ⟨X,8,none⟩=some (.int .i64 e.bv)∧w'.cell? ⟨X,9,none⟩=some (.int .i64 e.bn))
     ((with_reducible refine KS _ ?_;repeat (with_reducible (first | exact Below.refl _ _ | refine below_drew ?_ | refine below_all ?_ _ | refine below_oth ?_ hZ0 _ _ | refine below_oth ?_ hZ1 _ _ | refine below_next ?_ hb4 | fail))))
     (first | (go_at_call 92;(with_reducible refine (HC.out _ (by repeat (with_reducible (first | exact Below.refl _ _ | refine below_drew ?_ | refine below_all ?_ _ | refine below_oth ?_ hZ0 _ _ | refine below_oth ?_ hZ1 _ _ | refine below_next ?_ hb4 | fail)))).mono ?_);rintro z w4 ⟨rfl,hb4⟩;(first | (have qb:Blk w4 W1.heap.size dd0 166:=(Blk.new W1.drew dd0 166).next hb4;have f0:=qb.free 0;have c0:=qb.cell 0;have f1:=qb.free 1;have c1:=qb.cell 1;have f2:=qb.free 2;have c2:=qb.cell 2;have f3:=qb.free 3;have c3:=qb.cell 3;have f4:=qb.free 4;have c4:=qb.cell 4;have f5:=qb.free 5;have c5:=qb.cell 5;have f6:=qb.free 6;have c6:=qb.cell 6; skip) | (have hZ1:W1.heap.size≤w4.heap.size:=hb4.size))))
    all_goals
     go_wp2_with fail
     go_meet
     first
      | exact ⟨_,rfl,dput7_blk qb _ _ _ _ _ _ _,below_oth7 (by repeat (with_reducible (first | exact Below.refl _ _ | refine below_drew ?_ | refine below_all ?_ _ | refine below_oth ?_ hZ0 _ _ | refine below_oth ?_ hZ1 _ _ | refine below_next ?_ hb4 | fail))) (Nat.le_refl _) _ _ _ _ _ _ _,Nat.le_refl _⟩
      | exact ⟨_,rfl,Blk.new w4 _ _,below_all (by repeat (with_reducible (first | exact Below.refl _ _ | refine below_drew ?_ | refine below_all ?_ _ | refine below_oth ?_ hZ0 _ _ | refine below_oth ?_ hZ1 _ _ | refine below_next ?_ hb4 | fail))) _,hZ1⟩
  · have HC:=zh (fun W (hb:Below W1.heap.size W1 W)=>by have h:=strem_any (.slice (some ⟨K.vb,0,none⟩) K.nvt K.nvt) K.va sv s W (HVS.out W hb) e HH.out.2.2.2.1 hk1;unfold DeedTo at h;rw [HDD.out W hb] at h;exact h)
    have KS:=fun w' (hW:Below W1.heap.size W1 w')=>(⟨(HMX.out.1.next hW).cell 0,(HMX.out.1.next hW).cell 1,(HMX.out.1.next hW).cell 2,((HMX.out.1.next hW).cell (10+e.kd.toNat)).trans (by rw [hk1];rfl),(HMX.out.2.next hW).cell 0,(HMX.out.2.next hW).cell 1,(HMX.out.2.next hW).cell 2,(HMX.out.2.next hW).cell 3,(HMX.out.2.next hW).cell 4,(HMX.out.2.next hW).cell 5,(HMX.out.2.next hW).cell 6,(HMX.out.2.next hW).cell 7,(HMX.out.2.next hW).cell 8,(HMX.out.2.next hW).cell 9⟩:w'.cell? ⟨K.M,0,none⟩=some (.slice (some ⟨K.vb,0,none⟩) K.nvt K.nvt)∧w'.cell? ⟨K.M,1,none⟩=some K.va∧w'.cell? ⟨K.M,2,none⟩=some sv∧w'.cell? ⟨K.M,10+e.kd.toNat,none⟩=some (.func (.func 93) #[] #[])∧w'.cell? ⟨X,0,none⟩=some (.int .i64 e.fr)∧w'.cell? ⟨X,1,none⟩=some (.int .i64 e.dt)∧w'.cell? ⟨X,2,none⟩=some (.int .i64 e.kd)∧w'.cell? ⟨X,3,none⟩=some (.int .i64 e.dst)∧w'.cell? ⟨X,4,none⟩=some (.int .i64 e.arr)∧w'.cell? ⟨X,5,none⟩=some (.int .i64 e.op)∧w'.cell? ⟨X,6,none⟩=some (.int .i64 e.av)∧w'.cell? ⟨X,7,none⟩=some (.int .i64 e.an)∧w'.cell? ⟨X,8,none⟩=some (.int .i64 e.bv)∧w'.cell? ⟨X,9,none⟩=some (.int .i64 e.bn))
    have hZ0:W1.heap.size≤W1.heap.size:=Nat.le_refl _
    clear hk1
    go_region_held3 (fun w'=>w'.cell? ⟨K.M,0,none⟩=some (.slice (some ⟨K.vb,0,none⟩) K.nvt K.nvt)∧w'.cell? ⟨K.M,1,none⟩=some K.va∧w'.cell? ⟨K.M,2,none⟩=some sv∧w'.cell? ⟨K.M,10+e.kd.toNat,none⟩=some (.func (.func 93) #[] #[])∧w'.cell? ⟨X,0,none⟩=some (.int .i64 e.fr)∧w'.cell? ⟨X,1,none⟩=some (.int .i64 e.dt)∧w'.cell? ⟨X,2,none⟩=some (.int .i64 e.kd)∧w'.cell? ⟨X,3,none⟩=some (.int .i64 e.dst)∧w'.cell? ⟨X,4,none⟩=some (.int .i64 e.arr)∧w'.cell? ⟨X,5,none⟩=some (.int .i64 e.op)∧w'.cell? ⟨X,6,none⟩=some (.int .i64 e.av)∧w'.cell? ⟨X,7,none⟩=some (.int .i64 e.an)∧w'.cell? ⟨X,8,none⟩=some (.int .i64 e.bv)∧w'.cell? ⟨X,9,none⟩=some (.int .i64 e.bn))
     ((with_reducible refine KS _ ?_;repeat (with_reducible (first | exact Below.refl _ _ | refine below_drew ?_ | refine below_all ?_ _ | refine below_oth ?_ hZ0 _ _ | refine below_oth ?_ hZ1 _ _ | refine below_next ?_ hb4 | fail))))
     (first | (go_at_call 93;(with_reducible refine (HC.out _ (by repeat (with_reducible (first | exact Below.refl _ _ | refine below_drew ?_ | refine below_all ?_ _ | refine below_oth ?_ hZ0 _ _ | refine below_oth ?_ hZ1 _ _ | refine below_next ?_ hb4 | fail)))).mono ?_);rintro z w4 ⟨rfl,hb4⟩;(first | (have qb:Blk w4 W1.heap.size dd0 166:=(Blk.new W1.drew dd0 166).next hb4;have f0:=qb.free 0;have c0:=qb.cell 0;have f1:=qb.free 1;have c1:=qb.cell 1;have f2:=qb.free 2;have c2:=qb.cell 2;have f3:=qb.free 3;have c3:=qb.cell 3;have f4:=qb.free 4;have c4:=qb.cell 4;have f5:=qb.free 5;have c5:=qb.cell 5;have f6:=qb.free 6;have c6:=qb.cell 6; skip) | (have hZ1:W1.heap.size≤w4.heap.size:=hb4.size))))
    all_goals
     go_wp2_with fail
     go_meet
     first
      | exact ⟨_,rfl,dput7_blk qb _ _ _ _ _ _ _,below_oth7 (by repeat (with_reducible (first | exact Below.refl _ _ | refine below_drew ?_ | refine below_all ?_ _ | refine below_oth ?_ hZ0 _ _ | refine below_oth ?_ hZ1 _ _ | refine below_next ?_ hb4 | fail))) (Nat.le_refl _) _ _ _ _ _ _ _,Nat.le_refl _⟩
      | exact ⟨_,rfl,Blk.new w4 _ _,below_all (by repeat (with_reducible (first | exact Below.refl _ _ | refine below_drew ?_ | refine below_all ?_ _ | refine below_oth ?_ hZ0 _ _ | refine below_oth ?_ hZ1 _ _ | refine below_next ?_ hb4 | fail))) _,hZ1⟩
  · have HC:=zh (fun W (hb:Below W1.heap.size W1 W)=>by have h:=stinput_any (.slice (some ⟨K.vb,0,none⟩) K.nvt K.nvt) K.va sv s W (HVS.out W hb) e HH.out.2.2.2.1 hk1 (HH.out.2.2.2.2.1 hk1);unfold DeedTo at h;rw [HDD.out W hb] at h;exact h)
    have KS:=fun w' (hW:Below W1.heap.size W1 w')=>(⟨(HMX.out.1.next hW).cell 0,(HMX.out.1.next hW).cell 1,(HMX.out.1.next hW).cell 2,((HMX.out.1.next hW).cell (10+e.kd.toNat)).trans (by rw [hk1];rfl),(HMX.out.2.next hW).cell 0,(HMX.out.2.next hW).cell 1,(HMX.out.2.next hW).cell 2,(HMX.out.2.next hW).cell 3,(HMX.out.2.next hW).cell 4,(HMX.out.2.next hW).cell 5,(HMX.out.2.next hW).cell 6,(HMX.out.2.next hW).cell 7,(HMX.out.2.next hW).cell 8,(HMX.out.2.next hW).cell 9⟩:w'.cell? ⟨K.M,0,none⟩=some (.slice (some ⟨K.vb,0,none⟩) K.nvt K.nvt)∧w'.cell? ⟨K.M,1,none⟩=some K.va∧w'.cell? ⟨K.M,2,none⟩=some sv∧w'.cell? ⟨K.M,10+e.kd.toNat,none⟩=some (.func (.func 94) #[] #[])∧w'.cell? ⟨X,0,none⟩=some (.int .i64 e.fr)∧w'.cell? ⟨X,1,none⟩=some (.int .i64 e.dt)∧w'.cell? ⟨X,2,none⟩=some (.int .i64 e.kd)∧w'.cell? ⟨X,3,none⟩=some (.int .i64 e.dst)∧w'.cell? ⟨X,4,none⟩=some (.int .i64 e.arr)∧w'.cell? ⟨X,5,none⟩=some (.int .i64 e.op)∧w'.cell? ⟨X,6,none⟩=some (.int .i64 e.av)∧w'.cell? ⟨X,7,none⟩=some (.int .i64 e.an)∧w'.cell? ⟨X,8,none⟩=some (.int .i64 e.bv)∧w'.cell? ⟨X,9,none⟩=some (.int .i64 e.bn))
    have hZ0:W1.heap.size≤W1.heap.size:=Nat.le_refl _
    clear hk1
    go_region_held3 (fun w'=>w'.cell? ⟨K.M,0,none⟩=some (.slice (some ⟨K.vb,0,none⟩) K.nvt K.nvt)∧w'.cell? ⟨K.M,1,none⟩=some K.va∧w'.cell? ⟨K.M,2,none⟩=some sv∧w'.cell? ⟨K.M,10+e.kd.toNat,none⟩=some (.func (.func 94) #[] #[])∧w'.cell? ⟨X,0,none⟩=some (.int .i64 e.fr)∧w'.cell? ⟨X,1,none⟩=some (.int .i64 e.dt)∧w'.cell? ⟨X,2,none⟩=some (.int .i64 e.kd)∧w'.cell? ⟨X,3,none⟩=some (.int .i64 e.dst)∧w'.cell? ⟨X,4,none⟩=some (.int .i64 e.arr)∧w'.cell? ⟨X,5,none⟩=some (.int .i64 e.op)∧w'.cell? ⟨X,6,none⟩=some (.int .i64 e.av)∧w'.cell? ⟨X,7,none⟩=some (.int .i64 e.an)∧w'.cell? ⟨X,8,none⟩=some (.int .i64 e.bv)∧w'.cell? ⟨X,9,none⟩=some (.int .i64 e.bn))
     ((with_reducible refine KS _ ?_;repeat (with_reducible (first | exact Below.refl _ _ | refine below_drew ?_ | refine below_all ?_ _ | refine below_oth ?_ hZ0 _ _ | refine below_oth ?_ hZ1 _ _ | refine below_next ?_ hb4 | fail))))
     (first | (go_at_call 94;(with_reducible refine (HC.out _ (by repeat (with_reducible (first | exact Below.refl _ _ | refine below_drew ?_ | refine below_all ?_ _ | refine below_oth ?_ hZ0 _ _ | refine below_oth ?_ hZ1 _ _ | refine below_next ?_ hb4 | fail)))).mono ?_);rintro z w4 ⟨rfl,hb4⟩;(first | (have qb:Blk w4 W1.heap.size dd0 166:=(Blk.new W1.drew dd0 166).next hb4;have f0:=qb.free 0;have c0:=qb.cell 0;have f1:=qb.free 1;have c1:=qb.cell 1;have f2:=qb.free 2;have c2:=qb.cell 2;have f3:=qb.free 3;have c3:=qb.cell 3;have f4:=qb.free 4;have c4:=qb.cell 4;have f5:=qb.free 5;have c5:=qb.cell 5;have f6:=qb.free 6;have c6:=qb.cell 6; skip) | (have hZ1:W1.heap.size≤w4.heap.size:=hb4.size))))
    all_goals
     go_wp2_with fail
     go_meet
     first
      | exact ⟨_,rfl,dput7_blk qb _ _ _ _ _ _ _,below_oth7 (by repeat (with_reducible (first | exact Below.refl _ _ | refine below_drew ?_ | refine below_all ?_ _ | refine below_oth ?_ hZ0 _ _ | refine below_oth ?_ hZ1 _ _ | refine below_next ?_ hb4 | fail))) (Nat.le_refl _) _ _ _ _ _ _ _,Nat.le_refl _⟩
      | exact ⟨_,rfl,Blk.new w4 _ _,below_all (by repeat (with_reducible (first | exact Below.refl _ _ | refine below_drew ?_ | refine below_all ?_ _ | refine below_oth ?_ hZ0 _ _ | refine below_oth ?_ hZ1 _ _ | refine below_next ?_ hb4 | fail))) _,hZ1⟩
  · have HC:=zh (fun W (hb:Below W1.heap.size W1 W)=>by have h:=stload_any (.slice (some ⟨K.vb,0,none⟩) K.nvt K.nvt) K.va sv s W (HVS.out W hb) e HH.out.2.2.2.1 hk1;unfold DeedTo at h;rw [HDD.out W hb] at h;exact h)
    have KS:=fun w' (hW:Below W1.heap.size W1 w')=>(⟨(HMX.out.1.next hW).cell 0,(HMX.out.1.next hW).cell 1,(HMX.out.1.next hW).cell 2,((HMX.out.1.next hW).cell (10+e.kd.toNat)).trans (by rw [hk1];rfl),(HMX.out.2.next hW).cell 0,(HMX.out.2.next hW).cell 1,(HMX.out.2.next hW).cell 2,(HMX.out.2.next hW).cell 3,(HMX.out.2.next hW).cell 4,(HMX.out.2.next hW).cell 5,(HMX.out.2.next hW).cell 6,(HMX.out.2.next hW).cell 7,(HMX.out.2.next hW).cell 8,(HMX.out.2.next hW).cell 9⟩:w'.cell? ⟨K.M,0,none⟩=some (.slice (some ⟨K.vb,0,none⟩) K.nvt K.nvt)∧w'.cell? ⟨K.M,1,none⟩=some K.va∧w'.cell? ⟨K.M,2,none⟩=some sv∧w'.cell? ⟨K.M,10+e.kd.toNat,none⟩=some (.func (.func 95) #[] #[])∧w'.cell? ⟨X,0,none⟩=some (.int .i64 e.fr)∧w'.cell? ⟨X,1,none⟩=some (.int .i64 e.dt)∧w'.cell? ⟨X,2,none⟩=some (.int .i64 e.kd)∧w'.cell? ⟨X,3,none⟩=some (.int .i64 e.dst)∧w'.cell? ⟨X,4,none⟩=some (.int .i64 e.arr)∧w'.cell? ⟨X,5,none⟩=some (.int .i64 e.op)∧w'.cell? ⟨X,6,none⟩=some (.int .i64 e.av)∧w'.cell? ⟨X,7,none⟩=some (.int .i64 e.an)∧w'.cell? ⟨X,8,none⟩=some (.int .i64 e.bv)∧w'.cell? ⟨X,9,none⟩=some (.int .i64 e.bn))
    have hZ0:W1.heap.size≤W1.heap.size:=Nat.le_refl _
    clear hk1
    go_region_held3 (fun w'=>w'.cell? ⟨K.M,0,none⟩=some (.slice (some ⟨K.vb,0,none⟩) K.nvt K.nvt)∧w'.cell? ⟨K.M,1,none⟩=some K.va∧w'.cell? ⟨K.M,2,none⟩=some sv∧w'.cell? ⟨K.M,10+e.kd.toNat,none⟩=some (.func (.func 95) #[] #[])∧w'.cell? ⟨X,0,none⟩=some (.int .i64 e.fr)∧w'.cell? ⟨X,1,none⟩=some (.int .i64 e.dt)∧w'.cell? ⟨X,2,none⟩=some (.int .i64 e.kd)∧w'.cell? ⟨X,3,none⟩=some (.int .i64 e.dst)∧w'.cell? ⟨X,4,none⟩=some (.int .i64 e.arr)∧w'.cell? ⟨X,5,none⟩=some (.int .i64 e.op)∧w'.cell? ⟨X,6,none⟩=some (.int .i64 e.av)∧w'.cell? ⟨X,7,none⟩=some (.int .i64 e.an)∧w'.cell? ⟨X,8,none⟩=some (.int .i64 e.bv)∧w'.cell? ⟨X,9,none⟩=some (.int .i64 e.bn))
     ((with_reducible refine KS _ ?_;repeat (with_reducible (first | exact Below.refl _ _ | refine below_drew ?_ | refine below_all ?_ _ | refine below_oth ?_ hZ0 _ _ | refine below_oth ?_ hZ1 _ _ | refine below_next ?_ hb4 | fail))))
     (first | (go_at_call 95;(with_reducible refine (HC.out _ (by repeat (with_reducible (first | exact Below.refl _ _ | refine below_drew ?_ | refine below_all ?_ _ | refine below_oth ?_ hZ0 _ _ | refine below_oth ?_ hZ1 _ _ | refine below_next ?_ hb4 | fail)))).mono ?_);rintro z w4 ⟨rfl,hb4⟩;(first | (have qb:Blk w4 W1.heap.size dd0 166:=(Blk.new W1.drew dd0 166).next hb4;have f0:=qb.free 0;have c0:=qb.cell 0;have f1:=qb.free 1;have c1:=qb.cell 1;have f2:=qb.free 2;have c2:=qb.cell 2;have f3:=qb.free 3;have c3:=qb.cell 3;have f4:=qb.free 4;have c4:=qb.cell 4;have f5:=qb.free 5;have c5:=qb.cell 5;have f6:=qb.free 6;have c6:=qb.cell 6; skip) | (have hZ1:W1.heap.size≤w4.heap.size:=hb4.size))))
    all_goals
     go_wp2_with fail
     go_meet
     first
      | exact ⟨_,rfl,dput7_blk qb _ _ _ _ _ _ _,below_oth7 (by repeat (with_reducible (first | exact Below.refl _ _ | refine below_drew ?_ | refine below_all ?_ _ | refine below_oth ?_ hZ0 _ _ | refine below_oth ?_ hZ1 _ _ | refine below_next ?_ hb4 | fail))) (Nat.le_refl _) _ _ _ _ _ _ _,Nat.le_refl _⟩
      | exact ⟨_,rfl,Blk.new w4 _ _,below_all (by repeat (with_reducible (first | exact Below.refl _ _ | refine below_drew ?_ | refine below_all ?_ _ | refine below_oth ?_ hZ0 _ _ | refine below_oth ?_ hZ1 _ _ | refine below_next ?_ hb4 | fail))) _,hZ1⟩
  · have HC:=zh (fun W (hb:Below W1.heap.size W1 W)=>by have h:=ststore_any (.slice (some ⟨K.vb,0,none⟩) K.nvt K.nvt) K.va sv s W (HVS.out W hb) e HH.out.2.2.2.1 hk1;unfold DeedTo at h;rw [HDD.out W hb] at h;exact h)
    have KS:=fun w' (hW:Below W1.heap.size W1 w')=>(⟨(HMX.out.1.next hW).cell 0,(HMX.out.1.next hW).cell 1,(HMX.out.1.next hW).cell 2,((HMX.out.1.next hW).cell (10+e.kd.toNat)).trans (by rw [hk1];rfl),(HMX.out.2.next hW).cell 0,(HMX.out.2.next hW).cell 1,(HMX.out.2.next hW).cell 2,(HMX.out.2.next hW).cell 3,(HMX.out.2.next hW).cell 4,(HMX.out.2.next hW).cell 5,(HMX.out.2.next hW).cell 6,(HMX.out.2.next hW).cell 7,(HMX.out.2.next hW).cell 8,(HMX.out.2.next hW).cell 9⟩:w'.cell? ⟨K.M,0,none⟩=some (.slice (some ⟨K.vb,0,none⟩) K.nvt K.nvt)∧w'.cell? ⟨K.M,1,none⟩=some K.va∧w'.cell? ⟨K.M,2,none⟩=some sv∧w'.cell? ⟨K.M,10+e.kd.toNat,none⟩=some (.func (.func 96) #[] #[])∧w'.cell? ⟨X,0,none⟩=some (.int .i64 e.fr)∧w'.cell? ⟨X,1,none⟩=some (.int .i64 e.dt)∧w'.cell? ⟨X,2,none⟩=some (.int .i64 e.kd)∧w'.cell? ⟨X,3,none⟩=some (.int .i64 e.dst)∧w'.cell? ⟨X,4,none⟩=some (.int .i64 e.arr)∧w'.cell? ⟨X,5,none⟩=some (.int .i64 e.op)∧w'.cell? ⟨X,6,none⟩=some (.int .i64 e.av)∧w'.cell? ⟨X,7,none⟩=some (.int .i64 e.an)∧w'.cell? ⟨X,8,none⟩=some (.int .i64 e.bv)∧w'.cell? ⟨X,9,none⟩=some (.int .i64 e.bn))
    have hZ0:W1.heap.size≤W1.heap.size:=Nat.le_refl _
    clear hk1
    go_region_held3 (fun w'=>w'.cell? ⟨K.M,0,none⟩=some (.slice (some ⟨K.vb,0,none⟩) K.nvt K.nvt)∧w'.cell? ⟨K.M,1,none⟩=some K.va∧w'.cell? ⟨K.M,2,none⟩=some sv∧w'.cell? ⟨K.M,10+e.kd.toNat,none⟩=some (.func (.func 96) #[] #[])∧w'.cell? ⟨X,0,none⟩=some (.int .i64 e.fr)∧w'.cell? ⟨X,1,none⟩=some (.int .i64 e.dt)∧w'.cell? ⟨X,2,none⟩=some (.int .i64 e.kd)∧w'.cell? ⟨X,3,none⟩=some (.int .i64 e.dst)∧w'.cell? ⟨X,4,none⟩=some (.int .i64 e.arr)∧w'.cell? ⟨X,5,none⟩=some (.int .i64 e.op)∧w'.cell? ⟨X,6,none⟩=some (.int .i64 e.av)∧w'.cell? ⟨X,7,none⟩=some (.int .i64 e.an)∧w'.cell? ⟨X,8,none⟩=some (.int .i64 e.bv)∧w'.cell? ⟨X,9,none⟩=some (.int .i64 e.bn))
     ((with_reducible refine KS _ ?_;repeat (with_reducible (first | exact Below.refl _ _ | refine below_drew ?_ | refine below_all ?_ _ | refine below_oth ?_ hZ0 _ _ | refine below_oth ?_ hZ1 _ _ | refine below_next ?_ hb4 | fail))))
     (first | (go_at_call 96;(with_reducible refine (HC.out _ (by repeat (with_reducible (first | exact Below.refl _ _ | refine below_drew ?_ | refine below_all ?_ _ | refine below_oth ?_ hZ0 _ _ | refine below_oth ?_ hZ1 _ _ | refine below_next ?_ hb4 | fail)))).mono ?_);rintro z w4 ⟨rfl,hb4⟩;(first | (have qb:Blk w4 W1.heap.size dd0 166:=(Blk.new W1.drew dd0 166).next hb4;have f0:=qb.free 0;have c0:=qb.cell 0;have f1:=qb.free 1;have c1:=qb.cell 1;have f2:=qb.free 2;have c2:=qb.cell 2;have f3:=qb.free 3;have c3:=qb.cell 3;have f4:=qb.free 4;have c4:=qb.cell 4;have f5:=qb.free 5;have c5:=qb.cell 5;have f6:=qb.free 6;have c6:=qb.cell 6; skip) | (have hZ1:W1.heap.size≤w4.heap.size:=hb4.size))))
    all_goals
     go_wp2_with fail
     go_meet
     first
      | exact ⟨_,rfl,dput7_blk qb _ _ _ _ _ _ _,below_oth7 (by repeat (with_reducible (first | exact Below.refl _ _ | refine below_drew ?_ | refine below_all ?_ _ | refine below_oth ?_ hZ0 _ _ | refine below_oth ?_ hZ1 _ _ | refine below_next ?_ hb4 | fail))) (Nat.le_refl _) _ _ _ _ _ _ _,Nat.le_refl _⟩
      | exact ⟨_,rfl,Blk.new w4 _ _,below_all (by repeat (with_reducible (first | exact Below.refl _ _ | refine below_drew ?_ | refine below_all ?_ _ | refine below_oth ?_ hZ0 _ _ | refine below_oth ?_ hZ1 _ _ | refine below_next ?_ hb4 | fail))) _,hZ1⟩
  · have HC:=zh (fun W (hb:Below W1.heap.size W1 W)=>by have h:=stnothing_any (.slice (some ⟨K.vb,0,none⟩) K.nvt K.nvt) K.va sv s W e (by omega);unfold DeedTo at h;rw [HDD.out W hb] at h;exact h)
    have KS:=fun w' (hW:Below W1.heap.size W1 w')=>(⟨(HMX.out.1.next hW).cell 0,(HMX.out.1.next hW).cell 1,(HMX.out.1.next hW).cell 2,((HMX.out.1.next hW).cell (10+e.kd.toNat)).trans (by rw [hk1];rfl),(HMX.out.2.next hW).cell 0,(HMX.out.2.next hW).cell 1,(HMX.out.2.next hW).cell 2,(HMX.out.2.next hW).cell 3,(HMX.out.2.next hW).cell 4,(HMX.out.2.next hW).cell 5,(HMX.out.2.next hW).cell 6,(HMX.out.2.next hW).cell 7,(HMX.out.2.next hW).cell 8,(HMX.out.2.next hW).cell 9⟩:w'.cell? ⟨K.M,0,none⟩=some (.slice (some ⟨K.vb,0,none⟩) K.nvt K.nvt)∧w'.cell? ⟨K.M,1,none⟩=some K.va∧w'.cell? ⟨K.M,2,none⟩=some sv∧w'.cell? ⟨K.M,10+e.kd.toNat,none⟩=some (.func (.func 86) #[] #[])∧w'.cell? ⟨X,0,none⟩=some (.int .i64 e.fr)∧w'.cell? ⟨X,1,none⟩=some (.int .i64 e.dt)∧w'.cell? ⟨X,2,none⟩=some (.int .i64 e.kd)∧w'.cell? ⟨X,3,none⟩=some (.int .i64 e.dst)∧w'.cell? ⟨X,4,none⟩=some (.int .i64 e.arr)∧w'.cell? ⟨X,5,none⟩=some (.int .i64 e.op)∧w'.cell? ⟨X,6,none⟩=some (.int .i64 e.av)∧w'.cell? ⟨X,7,none⟩=some (.int .i64 e.an)∧w'.cell? ⟨X,8,none⟩=some (.int .i64 e.bv)∧w'.cell? ⟨X,9,none⟩=some (.int .i64 e.bn))
    have hZ0:W1.heap.size≤W1.heap.size:=Nat.le_refl _
    clear hk1
    go_region_held3 (fun w'=>w'.cell? ⟨K.M,0,none⟩=some (.slice (some ⟨K.vb,0,none⟩) K.nvt K.nvt)∧w'.cell? ⟨K.M,1,none⟩=some K.va∧w'.cell? ⟨K.M,2,none⟩=some sv∧w'.cell? ⟨K.M,10+e.kd.toNat,none⟩=some (.func (.func 86) #[] #[])∧w'.cell? ⟨X,0,none⟩=some (.int .i64 e.fr)∧w'.cell? ⟨X,1,none⟩=some (.int .i64 e.dt)∧w'.cell? ⟨X,2,none⟩=some (.int .i64 e.kd)∧w'.cell? ⟨X,3,none⟩=some (.int .i64 e.dst)∧w'.cell? ⟨X,4,none⟩=some (.int .i64 e.arr)∧w'.cell? ⟨X,5,none⟩=some (.int .i64 e.op)∧w'.cell? ⟨X,6,none⟩=some (.int .i64 e.av)∧w'.cell? ⟨X,7,none⟩=some (.int .i64 e.an)∧w'.cell? ⟨X,8,none⟩=some (.int .i64 e.bv)∧w'.cell? ⟨X,9,none⟩=some (.int .i64 e.bn))
     ((with_reducible refine KS _ ?_;repeat (with_reducible (first | exact Below.refl _ _ | refine below_drew ?_ | refine below_all ?_ _ | refine below_oth ?_ hZ0 _ _ | refine below_oth ?_ hZ1 _ _ | refine below_next ?_ hb4 | fail))))
     (first | (go_at_call 86;(with_reducible refine (HC.out _ (by repeat (with_reducible (first | exact Below.refl _ _ | refine below_drew ?_ | refine below_all ?_ _ | refine below_oth ?_ hZ0 _ _ | refine below_oth ?_ hZ1 _ _ | refine below_next ?_ hb4 | fail)))).mono ?_);rintro z w4 ⟨rfl,hb4⟩;(first | (have qb:Blk w4 W1.heap.size dd0 166:=(Blk.new W1.drew dd0 166).next hb4;have f0:=qb.free 0;have c0:=qb.cell 0;have f1:=qb.free 1;have c1:=qb.cell 1;have f2:=qb.free 2;have c2:=qb.cell 2;have f3:=qb.free 3;have c3:=qb.cell 3;have f4:=qb.free 4;have c4:=qb.cell 4;have f5:=qb.free 5;have c5:=qb.cell 5;have f6:=qb.free 6;have c6:=qb.cell 6; skip) | (have hZ1:W1.heap.size≤w4.heap.size:=hb4.size))))
    all_goals
     go_wp2_with fail
     go_meet
     first
      | exact ⟨_,rfl,dput7_blk qb _ _ _ _ _ _ _,below_oth7 (by repeat (with_reducible (first | exact Below.refl _ _ | refine below_drew ?_ | refine below_all ?_ _ | refine below_oth ?_ hZ0 _ _ | refine below_oth ?_ hZ1 _ _ | refine below_next ?_ hb4 | fail))) (Nat.le_refl _) _ _ _ _ _ _ _,Nat.le_refl _⟩
      | exact ⟨_,rfl,Blk.new w4 _ _,below_all (by repeat (with_reducible (first | exact Below.refl _ _ | refine below_drew ?_ | refine below_all ?_ _ | refine below_oth ?_ hZ0 _ _ | refine below_oth ?_ hZ1 _ _ | refine below_next ?_ hb4 | fail))) _,hZ1⟩
  · have HC:=zh (fun W (hb:Below W1.heap.size W1 W)=>by have h:=stpass_any (.slice (some ⟨K.vb,0,none⟩) K.nvt K.nvt) K.va sv s W e hk1;unfold DeedTo at h;rw [HDD.out W hb] at h;exact h)
    have KS:=fun w' (hW:Below W1.heap.size W1 w')=>(⟨(HMX.out.1.next hW).cell 0,(HMX.out.1.next hW).cell 1,(HMX.out.1.next hW).cell 2,((HMX.out.1.next hW).cell (10+e.kd.toNat)).trans (by rw [hk1];rfl),(HMX.out.2.next hW).cell 0,(HMX.out.2.next hW).cell 1,(HMX.out.2.next hW).cell 2,(HMX.out.2.next hW).cell 3,(HMX.out.2.next hW).cell 4,(HMX.out.2.next hW).cell 5,(HMX.out.2.next hW).cell 6,(HMX.out.2.next hW).cell 7,(HMX.out.2.next hW).cell 8,(HMX.out.2.next hW).cell 9⟩:w'.cell? ⟨K.M,0,none⟩=some (.slice (some ⟨K.vb,0,none⟩) K.nvt K.nvt)∧w'.cell? ⟨K.M,1,none⟩=some K.va∧w'.cell? ⟨K.M,2,none⟩=some sv∧w'.cell? ⟨K.M,10+e.kd.toNat,none⟩=some (.func (.func 97) #[] #[])∧w'.cell? ⟨X,0,none⟩=some (.int .i64 e.fr)∧w'.cell? ⟨X,1,none⟩=some (.int .i64 e.dt)∧w'.cell? ⟨X,2,none⟩=some (.int .i64 e.kd)∧w'.cell? ⟨X,3,none⟩=some (.int .i64 e.dst)∧w'.cell? ⟨X,4,none⟩=some (.int .i64 e.arr)∧w'.cell? ⟨X,5,none⟩=some (.int .i64 e.op)∧w'.cell? ⟨X,6,none⟩=some (.int .i64 e.av)∧w'.cell? ⟨X,7,none⟩=some (.int .i64 e.an)∧w'.cell? ⟨X,8,none⟩=some (.int .i64 e.bv)∧w'.cell? ⟨X,9,none⟩=some (.int .i64 e.bn))
    have hZ0:W1.heap.size≤W1.heap.size:=Nat.le_refl _
    clear hk1
    go_region_held3 (fun w'=>w'.cell? ⟨K.M,0,none⟩=some (.slice (some ⟨K.vb,0,none⟩) K.nvt K.nvt)∧w'.cell? ⟨K.M,1,none⟩=some K.va∧w'.cell? ⟨K.M,2,none⟩=some sv∧w'.cell? ⟨K.M,10+e.kd.toNat,none⟩=some (.func (.func 97) #[] #[])∧w'.cell? ⟨X,0,none⟩=some (.int .i64 e.fr)∧w'.cell? ⟨X,1,none⟩=some (.int .i64 e.dt)∧w'.cell? ⟨X,2,none⟩=some (.int .i64 e.kd)∧w'.cell? ⟨X,3,none⟩=some (.int .i64 e.dst)∧w'.cell? ⟨X,4,none⟩=some (.int .i64 e.arr)∧w'.cell? ⟨X,5,none⟩=some (.int .i64 e.op)∧w'.cell? ⟨X,6,none⟩=some (.int .i64 e.av)∧w'.cell? ⟨X,7,none⟩=some (.int .i64 e.an)∧w'.cell? ⟨X,8,none⟩=some (.int .i64 e.bv)∧w'.cell? ⟨X,9,none⟩=some (.int .i64 e.bn))
     ((with_reducible refine KS _ ?_;repeat (with_reducible (first | exact Below.refl _ _ | refine below_drew ?_ | refine below_all ?_ _ | refine below_oth ?_ hZ0 _ _ | refine below_oth ?_ hZ1 _ _ | refine below_next ?_ hb4 | fail))))
     (first | (go_at_call 97;(with_reducible refine (HC.out _ (by repeat (with_reducible (first | exact Below.refl _ _ | refine below_drew ?_ | refine below_all ?_ _ | refine below_oth ?_ hZ0 _ _ | refine below_oth ?_ hZ1 _ _ | refine below_next ?_ hb4 | fail)))).mono ?_);rintro z w4 ⟨rfl,hb4⟩;(first | (have qb:Blk w4 W1.heap.size dd0 166:=(Blk.new W1.drew dd0 166).next hb4;have f0:=qb.free 0;have c0:=qb.cell 0;have f1:=qb.free 1;have c1:=qb.cell 1;have f2:=qb.free 2;have c2:=qb.cell 2;have f3:=qb.free 3;have c3:=qb.cell 3;have f4:=qb.free 4;have c4:=qb.cell 4;have f5:=qb.free 5;have c5:=qb.cell 5;have f6:=qb.free 6;have c6:=qb.cell 6; skip) | (have hZ1:W1.heap.size≤w4.heap.size:=hb4.size))))
    all_goals
     go_wp2_with fail
     go_meet
     first
      | exact ⟨_,rfl,dput7_blk qb _ _ _ _ _ _ _,below_oth7 (by repeat (with_reducible (first | exact Below.refl _ _ | refine below_drew ?_ | refine below_all ?_ _ | refine below_oth ?_ hZ0 _ _ | refine below_oth ?_ hZ1 _ _ | refine below_next ?_ hb4 | fail))) (Nat.le_refl _) _ _ _ _ _ _ _,Nat.le_refl _⟩
      | exact ⟨_,rfl,Blk.new w4 _ _,below_all (by repeat (with_reducible (first | exact Below.refl _ _ | refine below_drew ?_ | refine below_all ?_ _ | refine below_oth ?_ hZ0 _ _ | refine below_oth ?_ hZ1 _ _ | refine below_next ?_ hb4 | fail))) _,hZ1⟩
  · have HC:=zh (fun W (hb:Below W1.heap.size W1 W)=>by have h:=stfail_any (.slice (some ⟨K.vb,0,none⟩) K.nvt K.nvt) K.va sv s W e hk1;unfold DeedTo at h;rw [HDD.out W hb] at h;exact h)
    have KS:=fun w' (hW:Below W1.heap.size W1 w')=>(⟨(HMX.out.1.next hW).cell 0,(HMX.out.1.next hW).cell 1,(HMX.out.1.next hW).cell 2,((HMX.out.1.next hW).cell (10+e.kd.toNat)).trans (by rw [hk1];rfl),(HMX.out.2.next hW).cell 0,(HMX.out.2.next hW).cell 1,(HMX.out.2.next hW).cell 2,(HMX.out.2.next hW).cell 3,(HMX.out.2.next hW).cell 4,(HMX.out.2.next hW).cell 5,(HMX.out.2.next hW).cell 6,(HMX.out.2.next hW).cell 7,(HMX.out.2.next hW).cell 8,(HMX.out.2.next hW).cell 9⟩:w'.cell? ⟨K.M,0,none⟩=some (.slice (some ⟨K.vb,0,none⟩) K.nvt K.nvt)∧w'.cell? ⟨K.M,1,none⟩=some K.va∧w'.cell? ⟨K.M,2,none⟩=some sv∧w'.cell? ⟨K.M,10+e.kd.toNat,none⟩=some (.func (.func 98) #[] #[])∧w'.cell? ⟨X,0,none⟩=some (.int .i64 e.fr)∧w'.cell? ⟨X,1,none⟩=some (.int .i64 e.dt)∧w'.cell? ⟨X,2,none⟩=some (.int .i64 e.kd)∧w'.cell? ⟨X,3,none⟩=some (.int .i64 e.dst)∧w'.cell? ⟨X,4,none⟩=some (.int .i64 e.arr)∧w'.cell? ⟨X,5,none⟩=some (.int .i64 e.op)∧w'.cell? ⟨X,6,none⟩=some (.int .i64 e.av)∧w'.cell? ⟨X,7,none⟩=some (.int .i64 e.an)∧w'.cell? ⟨X,8,none⟩=some (.int .i64 e.bv)∧w'.cell? ⟨X,9,none⟩=some (.int .i64 e.bn))
    have hZ0:W1.heap.size≤W1.heap.size:=Nat.le_refl _
    clear hk1
    go_region_held3 (fun w'=>w'.cell? ⟨K.M,0,none⟩=some (.slice (some ⟨K.vb,0,none⟩) K.nvt K.nvt)∧w'.cell? ⟨K.M,1,none⟩=some K.va∧w'.cell? ⟨K.M,2,none⟩=some sv∧w'.cell? ⟨K.M,10+e.kd.toNat,none⟩=some (.func (.func 98) #[] #[])∧w'.cell? ⟨X,0,none⟩=some (.int .i64 e.fr)∧w'.cell? ⟨X,1,none⟩=some (.int .i64 e.dt)∧w'.cell? ⟨X,2,none⟩=some (.int .i64 e.kd)∧w'.cell? ⟨X,3,none⟩=some (.int .i64 e.dst)∧w'.cell? ⟨X,4,none⟩=some (.int .i64 e.arr)∧w'.cell? ⟨X,5,none⟩=some (.int .i64 e.op)∧w'.cell? ⟨X,6,none⟩=some (.int .i64 e.av)∧w'.cell? ⟨X,7,none⟩=some (.int .i64 e.an)∧w'.cell? ⟨X,8,none⟩=some (.int .i64 e.bv)∧w'.cell? ⟨X,9,none⟩=some (.int .i64 e.bn))
     ((with_reducible refine KS _ ?_;repeat (with_reducible (first | exact Below.refl _ _ | refine below_drew ?_ | refine below_all ?_ _ | refine below_oth ?_ hZ0 _ _ | refine below_oth ?_ hZ1 _ _ | refine below_next ?_ hb4 | fail))))
     (first | (go_at_call 98;(with_reducible refine (HC.out _ (by repeat (with_reducible (first | exact Below.refl _ _ | refine below_drew ?_ | refine below_all ?_ _ | refine below_oth ?_ hZ0 _ _ | refine below_oth ?_ hZ1 _ _ | refine below_next ?_ hb4 | fail)))).mono ?_);rintro z w4 ⟨rfl,hb4⟩;(first | (have qb:Blk w4 W1.heap.size dd0 166:=(Blk.new W1.drew dd0 166).next hb4;have f0:=qb.free 0;have c0:=qb.cell 0;have f1:=qb.free 1;have c1:=qb.cell 1;have f2:=qb.free 2;have c2:=qb.cell 2;have f3:=qb.free 3;have c3:=qb.cell 3;have f4:=qb.free 4;have c4:=qb.cell 4;have f5:=qb.free 5;have c5:=qb.cell 5;have f6:=qb.free 6;have c6:=qb.cell 6; skip) | (have hZ1:W1.heap.size≤w4.heap.size:=hb4.size))))
    all_goals
     go_wp2_with fail
     go_meet
     first
      | exact ⟨_,rfl,dput7_blk qb _ _ _ _ _ _ _,below_oth7 (by repeat (with_reducible (first | exact Below.refl _ _ | refine below_drew ?_ | refine below_all ?_ _ | refine below_oth ?_ hZ0 _ _ | refine below_oth ?_ hZ1 _ _ | refine below_next ?_ hb4 | fail))) (Nat.le_refl _) _ _ _ _ _ _ _,Nat.le_refl _⟩
      | exact ⟨_,rfl,Blk.new w4 _ _,below_all (by repeat (with_reducible (first | exact Below.refl _ _ | refine below_drew ?_ | refine below_all ?_ _ | refine below_oth ?_ hZ0 _ _ | refine below_oth ?_ hZ1 _ _ | refine below_next ?_ hb4 | fail))) _,hZ1⟩
 case rest =>
  obtain ⟨Z,rfl,hz,hbz,hZ⟩:=hcut
  have hm:=HH.out.1.next hk hbz
  have hx:=HH.out.2.1.next hbz
  have mc:=hm.mach.cell
  have mf:=hm.mach.free
  have hst1:(s.steps:Int)+1≤9223372036854775807:=by omega
  have hst2:-9223372036854775808≤(s.steps:Int)+1:=by omega
  have HM:=zh (za hm (za hx (za hz (za hbz hZ))))
  clear hm hx hz hbz hZ
  go_upto_region 3 with fail
  obtain ⟨W2,hW2⟩:∃ W,wc.setCell ⟨K.M,28,none⟩ (.int .i64 ((s.steps:Int)+1))=W:=⟨_,rfl⟩
  have ho2:Only K.M wc W2:=by rw [← hW2];exact (Only.refl K.M wc).setCell (p:=⟨K.M,28,none⟩) rfl _
  have hMZ:K.M≠Z:=by have h1:=hk.m1;have h2:=HH.out.1.size;have h3:=HM.out.2.2.2.2;omega
  have hMX:K.M≠X:=by have h1:=hk.m1;have h2:=HSW.out;have h3:=HE.out.2;omega
  have hz2:Blk W2 Z (ddC wr pl num tl inp en hd) 166:=HM.out.2.2.1.only ho2 (fun e=>hMZ e.symm)
  have hx2:Blk W2 X (edC e) 40:=HM.out.2.1.only ho2 (fun e=>hMX e.symm)
  have hm2:Mk K W2 p 1 0 (tick s) sv ve:=HM.out.1.setM hk ho2 (by rw [← hW2];exact HM.out.1.mach.set 28 _) rfl rfl rfl HM.out.1.left (Nat.le_succ_of_le HM.out.1.few) HM.out.1.pt HM.out.1.fl
  have hkp2:Kp' K w W2:=((Kp'.below HH.out.2.2.1).trans (Kp'.below HM.out.2.2.2.1)).trans (Kp'.only ho2 (nfix_M K))
  have hZB:W1.heap.size≤Z:=HM.out.2.2.2.2
  have hZ2:Z<W2.heap.size:=hz2.lt
  rw [hW2]
  have H2:=zh (za hm2 (za hx2 (za hz2 (za hkp2 (za hMZ (za hMX hZB))))))
  have HCL:=zh HH.out.2.2.2.2.2
  have hcls:=HH.out.2.2.2.2.2
  have mc:=hm2.mach.cell
  have mf:=hm2.mach.free
  have zc:=hz2.cell
  have zf:=hz2.free
  have x1:W2.cell? ⟨X,1,none⟩=some (.int .i64 e.dt):=hx2.cell 1
  have hdt:=dt_at hk HED.out
  have hnn:=len_n hk
  have hpt:e.dt.toNat<K.g.n:=by omega
  have hdd:((e.dt.toNat:Nat):Int)=e.dt:=by omega
  have HPT:=zh (za hpt hdd)
  clear hW2 ho2 hz2 hx2 hm2 hkp2 hMZ hMX hZB hZ2 hdt hnn hpt hdd HM
  cases hcls with
  | nop h d =>
    have hq:=HV.out.symm.trans h
    simp only [ddV,ddC,Value.agg.injEq,Array.mk.injEq,List.cons.injEq,Value.int.injEq,Value.pointer.injEq,Value.bool.injEq,and_true,true_and] at hq
    obtain ⟨rfl,rfl,rfl,rfl,rfl,rfl,rfl⟩:=hq
    have HD:=zh d
    clear h d
    go_wp2_with fail
    go_end0
    have ho3:Only K.M W2 (W2.setCell ⟨K.M,25,none⟩ (.int .i64 e.dt)):=(Only.refl K.M W2).setCell (p:=⟨K.M,25,none⟩) rfl _
    refine ⟨rfl,H2.out.2.2.2.1.trans (Kp'.only ho3 (nfix_M K)),sv,ve,?_⟩
    rw [HD.out,if_pos rfl]
    exact H2.out.1.setM hk ho3 (by rw [HPT.out.2];exact H2.out.1.mach.set 25 _) rfl rfl rfl H2.out.1.left H2.out.1.few HPT.out.1 H2.out.1.fl
  | put nm h d f r =>
    have hq:=HV.out.symm.trans h
    simp only [ddV,ddC,Value.agg.injEq,Array.mk.injEq,List.cons.injEq,Value.int.injEq,Value.pointer.injEq,Value.bool.injEq,and_true,true_and] at hq
    obtain ⟨rfl,rfl,rfl,rfl,rfl,rfl,rfl⟩:=hq
    have hnv:=H2.out.1.nv
    have hd2:e.dst.toNat<K.nvt:=by rw [← hnv];show e.dst.toNat<s.vars.length;omega
    have HD:=zh (za d (za f hd2))
    have hpl:plcA (.slice (some ⟨K.vb,0,none⟩) K.nvt K.nvt) e.dst.toNat=some ⟨K.vb,e.dst.toNat,none⟩:=by simp [plcA]
    have c0:W2.cell? ⟨K.vb,e.dst.toNat,none⟩=some (.int .i64 ((tick s).vars.getD e.dst.toNat 0)):=(H2.out.1.vars.cell _).trans (intsV_at _ _ (by rw [hnv];exact hd2))
    have c1:W2.frozen? ⟨K.vb,e.dst.toNat,none⟩=false:=H2.out.1.vars.free _
    simp only [hpl] at zc
    clear h d f r hd2 hnv hpl
    go_upto_region 11 with fail
    obtain ⟨W3,hW3⟩:∃ W,W2.setCell ⟨K.vb,e.dst.toNat,none⟩ (.int .i64 num)=W:=⟨_,rfl⟩
    have ho3:Only K.vb W2 W3:=by rw [← hW3];exact (Only.refl K.vb W2).setCell (p:=⟨K.vb,e.dst.toNat,none⟩) rfl _
    have hm3:Mk K W3 p 1 0 (putS (tick s) e.dst num) sv ve:=by rw [← hW3];exact H2.out.1.setV hk e.dst.toNat HD.out.2.1
    have hXv:X≠K.vb:=by have h1:=hk.v1;have h2:=HSW.out;have h3:=HE.out.2;omega
    have hx3:Blk W3 X (edC e) 40:=H2.out.2.1.only ho3 hXv
    have hkp3:Kp' K w W3:=H2.out.2.2.2.1.trans (Kp'.only ho3 (nfix_v K))
    rw [hW3]
    clear hW3 ho3 hXv c0 c1
    have mc3:=hm3.mach.cell
    have mf3:=hm3.mach.free
    have x3:W3.cell? ⟨X,1,none⟩=some (.int .i64 e.dt):=hx3.cell 1
    have H3:=zh (za hm3 hkp3)
    clear mc mf zc zf x1 hm3 hx3 hkp3
    go_wp2_with fail
    go_end0
    have ho4:Only K.M W3 (W3.setCell ⟨K.M,25,none⟩ (.int .i64 e.dt)):=(Only.refl K.M W3).setCell (p:=⟨K.M,25,none⟩) rfl _
    refine ⟨rfl,H3.out.2.trans (Kp'.only ho4 (nfix_M K)),sv,ve,?_⟩
    rw [HD.out.1,if_pos rfl]
    exact H3.out.1.setM hk ho4 (by rw [HPT.out.2];exact H3.out.1.mach.set 25 _) rfl rfl rfl H3.out.1.left H3.out.1.few HPT.out.1 H3.out.1.fl
  | bad wr' hw h d =>
    have hq:=HV.out.symm.trans h
    simp only [ddV,ddC,Value.agg.injEq,Array.mk.injEq,List.cons.injEq,Value.int.injEq,Value.pointer.injEq,Value.bool.injEq,and_true,true_and] at hq
    obtain ⟨rfl,rfl,rfl,rfl,rfl,rfl,rfl⟩:=hq
    have t1:(wr != 0)=true:=by simpa using hw
    have HD:=zh (za d hw)
    clear h d hw
    go_upto_region 6 with fail
    go_region
    all_goals
     go_wp2_with fail
     go_end0
     refine ⟨rfl,H2.out.2.2.2.1.trans (Kp'.only (w':=_) (B:=K.M) ?_ (nfix_M K)),sv,ve,?_⟩
     · first
        | exact (((Only.refl K.M W2).trans (Only.below ((Below.refl _ W2).drew))).setCell (p:=⟨K.M,26,none⟩) rfl _).setCell (p:=⟨K.M,27,none⟩) rfl _
        | exact (((Only.refl K.M W2).trans (Only.below ((Below.refl _ W2).drew))).setCell (p:=⟨K.M,27,none⟩) rfl _).setCell (p:=⟨K.M,26,none⟩) rfl _
     · rw [HD.out.1,if_neg HD.out.2]
       first
        | exact H2.out.1.setM hk ((((Only.refl K.M W2).trans (Only.below ((Below.refl _ W2).drew))).setCell (p:=⟨K.M,26,none⟩) rfl _).setCell (p:=⟨K.M,27,none⟩) rfl _) (((show Blk W2.drew K.M _ _ from H2.out.1.mach).set 26 _).set 27 _) rfl rfl rfl H2.out.1.left H2.out.1.few H2.out.1.pt H2.out.1.fl
        | exact H2.out.1.setM hk ((((Only.refl K.M W2).trans (Only.below ((Below.refl _ W2).drew))).setCell (p:=⟨K.M,27,none⟩) rfl _).setCell (p:=⟨K.M,26,none⟩) rfl _) (((show Blk W2.drew K.M _ _ from H2.out.1.mach).set 27 _).set 26 _) rfl rfl rfl H2.out.1.left H2.out.1.few H2.out.1.pt H2.out.1.fl
  | sto a i nm ha hi h d f =>
    have hnal:s.arrs.length=K.ab.length:=HH.out.1.na
    have hab:a<K.ab.length:=by omega
    have hru:rowU W1 K.va a=rowV K.ab[a]:=by
     obtain ⟨ra,rcc,e1,h2⟩:=hk.rows
     obtain rfl:=h2.resolve_left (by omega)
     unfold rowU plcA
     rw [e1]
     simp only [Nat.zero_add]
     rw [HH.out.1.rows a hab]
     rfl
    have hpl:plcA (rowU W1 K.va a) i=some ⟨K.ab[a].1,i,none⟩:=by rw [hru];simp [rowV,plcA]
    rw [hpl] at h
    have hq:=HV.out.symm.trans h
    simp only [ddV,ddC,Value.agg.injEq,Array.mk.injEq,List.cons.injEq,Value.int.injEq,Value.pointer.injEq,Value.bool.injEq,and_true,true_and] at hq
    obtain ⟨rfl,rfl,rfl,rfl,rfl,rfl,rfl⟩:=hq
    have hmem:=List.getElem_mem hab
    have hcell:=H2.out.1.arrs a hab
    have c0:W2.cell? ⟨K.ab[a].1,i,none⟩=some (.int .i64 ((s.arrs.getD a []).getD i 0)):=(hcell.cell i).trans (intsV_at _ _ hi)
    have c1:W2.frozen? ⟨K.ab[a].1,i,none⟩=false:=hcell.free i
    have hXa:X≠K.ab[a].1:=by have h1:=hk.a1 _ hmem;have h2:=HSW.out;have h3:=HE.out.2;omega
    have HD:=zh (za d (za f (za hab (za hmem hXa))))
    obtain ⟨AB,hAB⟩:∃ b,K.ab[a].1=b:=⟨_,rfl⟩
    have HAB:=zh hAB
    rw [hAB] at c0 c1 zc
    clear h d f ha hi hnal hru hpl hmem hcell hXa hAB
    go_upto_region 11 with fail
    obtain ⟨W3,hW3⟩:∃ W,W2.setCell ⟨AB,i,none⟩ (.int .i64 num)=W:=⟨_,rfl⟩
    have ho3:Only AB W2 W3:=by rw [← hW3];exact (Only.refl AB W2).setCell (p:=⟨AB,i,none⟩) rfl _
    have hm3:Mk K W3 p 1 0 { tick s with arrs:=s.arrs.set a ((s.arrs.getD a []).set i num) } sv ve:=by rw [← hW3,← HAB.out];exact H2.out.1.setA hk a HD.out.2.2.1 i HD.out.2.1
    have hx3:Blk W3 X (edC e) 40:=H2.out.2.1.only ho3 (by rw [← HAB.out];exact HD.out.2.2.2.2)
    have hkp3:Kp' K w W3:=H2.out.2.2.2.1.trans (Kp'.only ho3 (by rw [← HAB.out];exact nfix_a HD.out.2.2.2.1))
    rw [hW3]
    clear hW3 ho3 c0 c1
    have mc3:=hm3.mach.cell
    have mf3:=hm3.mach.free
    have x3:W3.cell? ⟨X,1,none⟩=some (.int .i64 e.dt):=hx3.cell 1
    have H3:=zh (za hm3 hkp3)
    clear mc mf zc zf x1 hm3 hx3 hkp3
    go_wp2_with fail
    go_end0
    have ho4:Only K.M W3 (W3.setCell ⟨K.M,25,none⟩ (.int .i64 e.dt)):=(Only.refl K.M W3).setCell (p:=⟨K.M,25,none⟩) rfl _
    refine ⟨rfl,H3.out.2.trans (Kp'.only ho4 (nfix_M K)),sv,ve,?_⟩
    rw [HD.out.1,if_pos rfl]
    exact H3.out.1.setM hk ho4 (by rw [HPT.out.2];exact H3.out.1.mach.set 25 _) rfl rfl rfl H3.out.1.left H3.out.1.few HPT.out.1 H3.out.1.fl
  | pass h d =>
    have hq:=HV.out.symm.trans h
    simp only [ddV,ddC,Value.agg.injEq,Array.mk.injEq,List.cons.injEq,Value.int.injEq,Value.pointer.injEq,Value.bool.injEq,and_true,true_and] at hq
    obtain ⟨rfl,rfl,rfl,rfl,rfl,rfl,rfl⟩:=hq
    have HD:=zh d
    clear h d
    have c29:W2.cell? ⟨K.M,29,none⟩=some ve:=H2.out.1.mach.cell 29
    have g29:W2.frozen? ⟨K.M,29,none⟩=false:=H2.out.1.mach.free 29
    have y29:(W2.alloc (.cells #[.bool false,.int .i64 0,.bool true] 100)).cell? ⟨K.M,29,none⟩=some ve:=(H2.out.1.mach.alloc _).cell 29
    have z4:W2.cell? ⟨Z,4,none⟩=some (.bool false):=H2.out.2.2.1.cell 4
    have z5:W2.cell? ⟨Z,5,none⟩=some (.int .i64 0):=H2.out.2.2.1.cell 5
    have z6:W2.cell? ⟨Z,6,none⟩=some (.bool true):=H2.out.2.2.1.cell 6
    obtain ⟨i0,hi0,hz0,hz1,hz2⟩:=info_parts info_evt
    have hl1:s.evs.length+1≤65536:=by have h1:=HH.out.1.few;omega
    obtain ⟨N,hN⟩:∃ N,s.evs.length=N:=⟨_,rfl⟩
    have hev:=H2.out.1.evs
    rw [show (tick s).evs=s.evs from rfl,hN] at hev
    rw [hN] at hl1
    obtain ⟨CS,hCS⟩:∃ C,cellsV s.evs=C:=⟨_,rfl⟩
    rw [hCS] at hev
    have HI0:=zh (za hi0 (za hz0 (za hz1 hz2)))
    have HEW:=zh hev
    have HN:=zh (za hN hCS)
    have hB1:=H2.out.1.size
    clear hi0 hz0 hz1 hz2 hev hN hCS
    go_upto_region 4 with fail
    go_cut [] (fun wx=>∃ gg cap w5,wx=w5.setCell ⟨K.M,29,none⟩ (.slice (some ⟨gg,0,none⟩) (N+1) cap)∧w5.ownsRow K.B1 100 3 (.slice (some ⟨gg,0,none⟩) (N+1) cap) (N+1) (CS++[.bool false,.int .i64 0,.bool true])∧Below K.B1 W2 w5∧(∀ b,K.B1≤b→b<W2.heap.size→ve.ownBlock≠some b→w5.heap[b]?=W2.heap[b]?))
    case first =>
     clear mc mf zc zf x1
     go_region_law
      (refine step_append_lies _ (by rfl) _ _ _ (by rfl) K.B1 100 i0 _ 3 24 Tryz.underlying44 HI0.out.1 HI0.out.2.1 HI0.out.2.2.1 HI0.out.2.2.2 rfl (by omega) ve N CS (by rfl) (HEW.out.drew.alloc _) ⟨W2.heap.size,0,none⟩ 1 1 [.bool false,.int .i64 0,.bool true] (by rfl) (by rfl) (World.news_of_block (cs:=#[.bool false,.int .i64 0,.bool true]) (t:=100) (fr:=(0,0)) (heap_alloc_new W2.drew _)) (evt_one false 0 true) (by omega) (by unfold maxLen;omega) (by omega) (by simp;omega) (W2.heap.size+1) (by simp) ?_
       intro gg cap w5 hown hgrow hat hlt5
       have q29:w5.cell? ⟨K.M,29,none⟩=some ve:=(blk_grown ((show Blk W2.drew K.M _ _ from H2.out.1.mach).alloc _) hgrow (fun e=>by have:=HEW.out.lt _ e;have:=hk.m1;omega)).cell 29
       have r29:w5.frozen? ⟨K.M,29,none⟩=false:=(blk_grown ((show Blk W2.drew K.M _ _ from H2.out.1.mach).alloc _) hgrow (fun e=>by have:=HEW.out.lt _ e;have:=hk.m1;omega)).free 29)
     all_goals
      go_wp2_with fail
      go_meet
      have hgW:=(World.size_alloc W2 (.cells #[.bool false,.int .i64 0,.bool true] 100)).symm
      have hb5:Below K.B1 W2 w5:=below_grown ((Below.refl K.B1 W2).drew.alloc hB1 _) (Nat.le_trans (Nat.le_succ_of_le hB1) (Nat.le_of_eq hgW)) hgrow (fun g hg=>(HEW.out.lt g hg).1)
      refine ⟨gg,cap,w5,rfl,hown,hb5,fun b _ hlt hne=>?_⟩
      rw [hgrow.block b (Nat.lt_of_lt_of_eq (Nat.lt_succ_of_lt hlt) hgW) (fun e=>hne e.symm)]
      exact heap_alloc_old W2 _ hlt
    case rest =>
     obtain ⟨gg,cap,w5,hwc,hown,hb5,hoth⟩:=hcut
     have hm5:Mk K wc p 1 0 (noteR false 0 true (tick s)) sv (.slice (some ⟨gg,0,none⟩) (N+1) cap):=by
      rw [hwc]
      refine H2.out.1.turn hk hb5 ?_ rfl rfl rfl rfl ?_
      · rw [show (noteR false 0 true (tick s)).evs=s.evs++[(false,0,true)] from rfl,cellsV_snoc,HN.out.2,List.length_append,HN.out.1]
        exact hown
      · have h1:=HH.out.1.few
        rw [show (noteR false 0 true (tick s)).evs=s.evs++[(false,0,true)] from rfl,List.length_append]
        show s.evs.length+1≤s.steps+1
        omega
     have hoM:Only K.M w5 wc:=by rw [hwc];exact (Only.refl K.M w5).setCell (p:=⟨K.M,29,none⟩) rfl _
     have hXB:K.B1≤X:=by have h1:=HSW.out;have h2:=HE.out.2;omega
     have hZB:K.B1≤Z:=Nat.le_trans HH.out.1.size H2.out.2.2.2.2.2.2
     have hx5:Blk wc X (edC e) 40:=Blk.only ((hoth X hXB H2.out.2.1.lt (fun e=>by have h1:=HEV.out X e;have h2:=HE.out.2;omega)).trans H2.out.2.1) hoM (fun e=>H2.out.2.2.2.2.2.1 e.symm)
     have hz5:Blk wc Z _ 166:=Blk.only ((hoth Z hZB H2.out.2.2.1.lt (fun e=>by have h1:=HEV.out Z e;have h2:=HH.out.2.2.1.size;have h3:=H2.out.2.2.2.2.2.2;omega)).trans H2.out.2.2.1) hoM (fun e=>H2.out.2.2.2.2.1 e.symm)
     have hkp5:Kp' K w wc:=H2.out.2.2.2.1.trans ((show Kp' K W2 w5 from ⟨hb5.os,hb5.tape,hb5.output,hb5.size,fun b _ hf=>hb5.block b hf.1⟩).trans (Kp'.only hoM (nfix_M K)))
     have HN2:=zh (za hm5 (za hx5 (za hz5 hkp5)))
     clear hwc hown hb5 hoth hm5 hoM hXB hZB hx5 hz5 hkp5 c29 g29 y29 z4 z5 z6 mc mf zc zf x1
     have mc:=HN2.out.1.mach.cell
     have mf:=HN2.out.1.mach.free
     have zc:=HN2.out.2.2.1.cell
     have zf:=HN2.out.2.2.1.free
     have x1:wc.cell? ⟨X,1,none⟩=some (.int .i64 e.dt):=HN2.out.2.1.cell 1
     go_wp2_with fail
     go_end0
     have ho4:Only K.M wc (wc.setCell ⟨K.M,25,none⟩ (.int .i64 e.dt)):=(Only.refl K.M wc).setCell (p:=⟨K.M,25,none⟩) rfl _
     refine ⟨rfl,HN2.out.2.2.2.trans (Kp'.only ho4 (nfix_M K)),sv,(.slice (some ⟨gg,0,none⟩) (N+1) cap),?_⟩
     rw [HD.out,if_pos rfl]
     exact HN2.out.1.setM hk ho4 (by rw [HPT.out.2];exact HN2.out.1.mach.set 25 _) rfl rfl rfl HN2.out.1.left HN2.out.1.few HPT.out.1 HN2.out.1.fl
  | fail h d =>
    have hq:=HV.out.symm.trans h
    simp only [ddV,ddC,Value.agg.injEq,Array.mk.injEq,List.cons.injEq,Value.int.injEq,Value.pointer.injEq,Value.bool.injEq,and_true,true_and] at hq
    obtain ⟨rfl,rfl,rfl,rfl,rfl,rfl,rfl⟩:=hq
    have HD:=zh d
    clear h d
    have c29:W2.cell? ⟨K.M,29,none⟩=some ve:=H2.out.1.mach.cell 29
    have g29:W2.frozen? ⟨K.M,29,none⟩=false:=H2.out.1.mach.free 29
    have y29:(W2.alloc (.cells #[.bool false,.int .i64 0,.bool false] 100)).cell? ⟨K.M,29,none⟩=some ve:=(H2.out.1.mach.alloc _).cell 29
    have z4:W2.cell? ⟨Z,4,none⟩=some (.bool false):=H2.out.2.2.1.cell 4
    have z5:W2.cell? ⟨Z,5,none⟩=some (.int .i64 0):=H2.out.2.2.1.cell 5
    have z6:W2.cell? ⟨Z,6,none⟩=some (.bool false):=H2.out.2.2.1.cell 6
    obtain ⟨i0,hi0,hz0,hz1,hz2⟩:=info_parts info_evt
    have hl1:s.evs.length+1≤65536:=by have h1:=HH.out.1.few;omega
    obtain ⟨N,hN⟩:∃ N,s.evs.length=N:=⟨_,rfl⟩
    have hev:=H2.out.1.evs
    rw [show (tick s).evs=s.evs from rfl,hN] at hev
    rw [hN] at hl1
    obtain ⟨CS,hCS⟩:∃ C,cellsV s.evs=C:=⟨_,rfl⟩
    rw [hCS] at hev
    have HI0:=zh (za hi0 (za hz0 (za hz1 hz2)))
    have HEW:=zh hev
    have HN:=zh (za hN hCS)
    have hB1:=H2.out.1.size
    clear hi0 hz0 hz1 hz2 hev hN hCS
    go_upto_region 4 with fail
    go_cut [] (fun wx=>∃ gg cap w5,wx=w5.setCell ⟨K.M,29,none⟩ (.slice (some ⟨gg,0,none⟩) (N+1) cap)∧w5.ownsRow K.B1 100 3 (.slice (some ⟨gg,0,none⟩) (N+1) cap) (N+1) (CS++[.bool false,.int .i64 0,.bool false])∧Below K.B1 W2 w5∧(∀ b,K.B1≤b→b<W2.heap.size→ve.ownBlock≠some b→w5.heap[b]?=W2.heap[b]?))
    case first =>
     clear mc mf zc zf x1
     go_region_law
      (refine step_append_lies _ (by rfl) _ _ _ (by rfl) K.B1 100 i0 _ 3 24 Tryz.underlying44 HI0.out.1 HI0.out.2.1 HI0.out.2.2.1 HI0.out.2.2.2 rfl (by omega) ve N CS (by rfl) (HEW.out.drew.alloc _) ⟨W2.heap.size,0,none⟩ 1 1 [.bool false,.int .i64 0,.bool false] (by rfl) (by rfl) (World.news_of_block (cs:=#[.bool false,.int .i64 0,.bool false]) (t:=100) (fr:=(0,0)) (heap_alloc_new W2.drew _)) (evt_one false 0 false) (by omega) (by unfold maxLen;omega) (by omega) (by simp;omega) (W2.heap.size+1) (by simp) ?_
       intro gg cap w5 hown hgrow hat hlt5
       have q29:w5.cell? ⟨K.M,29,none⟩=some ve:=(blk_grown ((show Blk W2.drew K.M _ _ from H2.out.1.mach).alloc _) hgrow (fun e=>by have:=HEW.out.lt _ e;have:=hk.m1;omega)).cell 29
       have r29:w5.frozen? ⟨K.M,29,none⟩=false:=(blk_grown ((show Blk W2.drew K.M _ _ from H2.out.1.mach).alloc _) hgrow (fun e=>by have:=HEW.out.lt _ e;have:=hk.m1;omega)).free 29)
     all_goals
      go_wp2_with fail
      go_meet
      have hgW:=(World.size_alloc W2 (.cells #[.bool false,.int .i64 0,.bool false] 100)).symm
      have hb5:Below K.B1 W2 w5:=below_grown ((Below.refl K.B1 W2).drew.alloc hB1 _) (Nat.le_trans (Nat.le_succ_of_le hB1) (Nat.le_of_eq hgW)) hgrow (fun g hg=>(HEW.out.lt g hg).1)
      refine ⟨gg,cap,w5,rfl,hown,hb5,fun b _ hlt hne=>?_⟩
      rw [hgrow.block b (Nat.lt_of_lt_of_eq (Nat.lt_succ_of_lt hlt) hgW) (fun e=>hne e.symm)]
      exact heap_alloc_old W2 _ hlt
    case rest =>
     obtain ⟨gg,cap,w5,hwc,hown,hb5,hoth⟩:=hcut
     have hm5:Mk K wc p 1 0 (noteR false 0 false (tick s)) sv (.slice (some ⟨gg,0,none⟩) (N+1) cap):=by
      rw [hwc]
      refine H2.out.1.turn hk hb5 ?_ rfl rfl rfl rfl ?_
      · rw [show (noteR false 0 false (tick s)).evs=s.evs++[(false,0,false)] from rfl,cellsV_snoc,HN.out.2,List.length_append,HN.out.1]
        exact hown
      · have h1:=HH.out.1.few
        rw [show (noteR false 0 false (tick s)).evs=s.evs++[(false,0,false)] from rfl,List.length_append]
        show s.evs.length+1≤s.steps+1
        omega
     have hoM:Only K.M w5 wc:=by rw [hwc];exact (Only.refl K.M w5).setCell (p:=⟨K.M,29,none⟩) rfl _
     have hXB:K.B1≤X:=by have h1:=HSW.out;have h2:=HE.out.2;omega
     have hZB:K.B1≤Z:=Nat.le_trans HH.out.1.size H2.out.2.2.2.2.2.2
     have hx5:Blk wc X (edC e) 40:=Blk.only ((hoth X hXB H2.out.2.1.lt (fun e=>by have h1:=HEV.out X e;have h2:=HE.out.2;omega)).trans H2.out.2.1) hoM (fun e=>H2.out.2.2.2.2.2.1 e.symm)
     have hz5:Blk wc Z _ 166:=Blk.only ((hoth Z hZB H2.out.2.2.1.lt (fun e=>by have h1:=HEV.out Z e;have h2:=HH.out.2.2.1.size;have h3:=H2.out.2.2.2.2.2.2;omega)).trans H2.out.2.2.1) hoM (fun e=>H2.out.2.2.2.2.1 e.symm)
     have hkp5:Kp' K w wc:=H2.out.2.2.2.1.trans ((show Kp' K W2 w5 from ⟨hb5.os,hb5.tape,hb5.output,hb5.size,fun b _ hf=>hb5.block b hf.1⟩).trans (Kp'.only hoM (nfix_M K)))
     have HN2:=zh (za hm5 (za hx5 (za hz5 hkp5)))
     clear hwc hown hb5 hoth hm5 hoM hXB hZB hx5 hz5 hkp5 c29 g29 y29 z4 z5 z6 mc mf zc zf x1
     have mc:=HN2.out.1.mach.cell
     have mf:=HN2.out.1.mach.free
     have zc:=HN2.out.2.2.1.cell
     have zf:=HN2.out.2.2.1.free
     have x1:wc.cell? ⟨X,1,none⟩=some (.int .i64 e.dt):=HN2.out.2.1.cell 1
     obtain ⟨w6,hw6⟩:∃ x,x=wc:=⟨_,rfl⟩
     subst hw6
     go_upto_region 6 with fail
     go_region
     all_goals
      go_wp2_with fail
      go_end0
      refine ⟨rfl,HN2.out.2.2.2.trans (Kp'.only (w':=_) (B:=K.M) ?_ (nfix_M K)),sv,(.slice (some ⟨gg,0,none⟩) (N+1) cap),?_⟩
      · first
         | exact (((Only.refl K.M w6).trans (Only.below ((Below.refl _ w6).drew))).setCell (p:=⟨K.M,26,none⟩) rfl _).setCell (p:=⟨K.M,27,none⟩) rfl _
         | exact (((Only.refl K.M w6).trans (Only.below ((Below.refl _ w6).drew))).setCell (p:=⟨K.M,27,none⟩) rfl _).setCell (p:=⟨K.M,26,none⟩) rfl _
      · rw [HD.out,if_neg (by simp)]
        first
         | exact HN2.out.1.setM hk ((((Only.refl K.M w6).trans (Only.below ((Below.refl _ w6).drew))).setCell (p:=⟨K.M,26,none⟩) rfl _).setCell (p:=⟨K.M,27,none⟩) rfl _) (((show Blk w6.drew K.M _ _ from HN2.out.1.mach).set 26 _).set 27 _) rfl rfl rfl HN2.out.1.left HN2.out.1.few HN2.out.1.pt HN2.out.1.fl
         | exact HN2.out.1.setM hk ((((Only.refl K.M w6).trans (Only.below ((Below.refl _ w6).drew))).setCell (p:=⟨K.M,27,none⟩) rfl _).setCell (p:=⟨K.M,26,none⟩) rfl _) (((show Blk w6.drew K.M _ _ from HN2.out.1.mach).set 27 _).set 26 _) rfl rfl rfl HN2.out.1.left HN2.out.1.few HN2.out.1.pt HN2.out.1.fl
  | inp v l hli h d r =>
    have hq:=HV.out.symm.trans h
    simp only [ddV,ddC,Value.agg.injEq,Array.mk.injEq,List.cons.injEq,Value.int.injEq,Value.pointer.injEq,Value.bool.injEq,and_true,true_and] at hq
    obtain ⟨rfl,rfl,rfl,rfl,rfl,rfl,rfl⟩:=hq
    have hnv:=H2.out.1.nv
    have hd2:e.dst.toNat<K.nvt:=by rw [← hnv];show e.dst.toNat<s.vars.length;omega
    have HD:=zh (za d (za hli hd2))
    have hpl:plcA (.slice (some ⟨K.vb,0,none⟩) K.nvt K.nvt) e.dst.toNat=some ⟨K.vb,e.dst.toNat,none⟩:=by simp [plcA]
    have HPL:=zh hpl
    clear h d r hd2 hnv hli hpl
    have c29:W2.cell? ⟨K.M,29,none⟩=some ve:=H2.out.1.mach.cell 29
    have g29:W2.frozen? ⟨K.M,29,none⟩=false:=H2.out.1.mach.free 29
    have y29:(W2.alloc (.cells #[.bool true,.int .i64 en,.bool false] 100)).cell? ⟨K.M,29,none⟩=some ve:=(H2.out.1.mach.alloc _).cell 29
    have z4:W2.cell? ⟨Z,4,none⟩=some (.bool true):=H2.out.2.2.1.cell 4
    have z5:W2.cell? ⟨Z,5,none⟩=some (.int .i64 en):=H2.out.2.2.1.cell 5
    have z6:W2.cell? ⟨Z,6,none⟩=some (.bool false):=H2.out.2.2.1.cell 6
    obtain ⟨i0,hi0,hz0,hz1,hz2⟩:=info_parts info_evt
    have hl1:s.evs.length+1≤65536:=by have h1:=HH.out.1.few;omega
    obtain ⟨N,hN⟩:∃ N,s.evs.length=N:=⟨_,rfl⟩
    have hev:=H2.out.1.evs
    rw [show (tick s).evs=s.evs from rfl,hN] at hev
    rw [hN] at hl1
    obtain ⟨CS,hCS⟩:∃ C,cellsV s.evs=C:=⟨_,rfl⟩
    rw [hCS] at hev
    have HI0:=zh (za hi0 (za hz0 (za hz1 hz2)))
    have HEW:=zh hev
    have HN:=zh (za hN hCS)
    have hB1:=H2.out.1.size
    clear hi0 hz0 hz1 hz2 hev hN hCS
    go_upto_region 4 with fail
    go_cut [] (fun wx=>∃ gg cap w5,wx=w5.setCell ⟨K.M,29,none⟩ (.slice (some ⟨gg,0,none⟩) (N+1) cap)∧w5.ownsRow K.B1 100 3 (.slice (some ⟨gg,0,none⟩) (N+1) cap) (N+1) (CS++[.bool true,.int .i64 en,.bool false])∧Below K.B1 W2 w5∧(∀ b,K.B1≤b→b<W2.heap.size→ve.ownBlock≠some b→w5.heap[b]?=W2.heap[b]?))
    case first =>
     clear mc mf zc zf x1
     go_region_law
      (refine step_append_lies _ (by rfl) _ _ _ (by rfl) K.B1 100 i0 _ 3 24 Tryz.underlying44 HI0.out.1 HI0.out.2.1 HI0.out.2.2.1 HI0.out.2.2.2 rfl (by omega) ve N CS (by rfl) (HEW.out.drew.alloc _) ⟨W2.heap.size,0,none⟩ 1 1 [.bool true,.int .i64 en,.bool false] (by rfl) (by rfl) (World.news_of_block (cs:=#[.bool true,.int .i64 en,.bool false]) (t:=100) (fr:=(0,0)) (heap_alloc_new W2.drew _)) (evt_one true en false) (by omega) (by unfold maxLen;omega) (by omega) (by simp;omega) (W2.heap.size+1) (by simp) ?_
       intro gg cap w5 hown hgrow hat hlt5
       have q29:w5.cell? ⟨K.M,29,none⟩=some ve:=(blk_grown ((show Blk W2.drew K.M _ _ from H2.out.1.mach).alloc _) hgrow (fun e=>by have:=HEW.out.lt _ e;have:=hk.m1;omega)).cell 29
       have r29:w5.frozen? ⟨K.M,29,none⟩=false:=(blk_grown ((show Blk W2.drew K.M _ _ from H2.out.1.mach).alloc _) hgrow (fun e=>by have:=HEW.out.lt _ e;have:=hk.m1;omega)).free 29)
     all_goals
      go_wp2_with fail
      go_meet
      have hgW:=(World.size_alloc W2 (.cells #[.bool true,.int .i64 en,.bool false] 100)).symm
      have hb5:Below K.B1 W2 w5:=below_grown ((Below.refl K.B1 W2).drew.alloc hB1 _) (Nat.le_trans (Nat.le_succ_of_le hB1) (Nat.le_of_eq hgW)) hgrow (fun g hg=>(HEW.out.lt g hg).1)
      refine ⟨gg,cap,w5,rfl,hown,hb5,fun b _ hlt hne=>?_⟩
      rw [hgrow.block b (Nat.lt_of_lt_of_eq (Nat.lt_succ_of_lt hlt) hgW) (fun e=>hne e.symm)]
      exact heap_alloc_old W2 _ hlt
    case rest =>
     obtain ⟨gg,cap,w5,hwc,hown,hb5,hoth⟩:=hcut
     have hm5:Mk K wc p 1 0 (noteR true en false (tick s)) sv (.slice (some ⟨gg,0,none⟩) (N+1) cap):=by
      rw [hwc]
      refine H2.out.1.turn hk hb5 ?_ rfl rfl rfl rfl ?_
      · rw [show (noteR true en false (tick s)).evs=s.evs++[(true,en,false)] from rfl,cellsV_snoc,HN.out.2,List.length_append,HN.out.1]
        exact hown
      · have h1:=HH.out.1.few
        rw [show (noteR true en false (tick s)).evs=s.evs++[(true,en,false)] from rfl,List.length_append]
        show s.evs.length+1≤s.steps+1
        omega
     have hoM:Only K.M w5 wc:=by rw [hwc];exact (Only.refl K.M w5).setCell (p:=⟨K.M,29,none⟩) rfl _
     have hXB:K.B1≤X:=by have h1:=HSW.out;have h2:=HE.out.2;omega
     have hZB:K.B1≤Z:=Nat.le_trans HH.out.1.size H2.out.2.2.2.2.2.2
     have hx5:Blk wc X (edC e) 40:=Blk.only ((hoth X hXB H2.out.2.1.lt (fun e=>by have h1:=HEV.out X e;have h2:=HE.out.2;omega)).trans H2.out.2.1) hoM (fun e=>H2.out.2.2.2.2.2.1 e.symm)
     have hz5:Blk wc Z _ 166:=Blk.only ((hoth Z hZB H2.out.2.2.1.lt (fun e=>by have h1:=HEV.out Z e;have h2:=HH.out.2.2.1.size;have h3:=H2.out.2.2.2.2.2.2;omega)).trans H2.out.2.2.1) hoM (fun e=>H2.out.2.2.2.2.1 e.symm)
     have hkp5:Kp' K w wc:=H2.out.2.2.2.1.trans ((show Kp' K W2 w5 from ⟨hb5.os,hb5.tape,hb5.output,hb5.size,fun b _ hf=>hb5.block b hf.1⟩).trans (Kp'.only hoM (nfix_M K)))
     have HN2:=zh (za hm5 (za hx5 (za hz5 hkp5)))
     clear hwc hown hb5 hoth hm5 hoM hXB hZB hx5 hz5 hkp5 c29 g29 y29 z4 z5 z6 mc mf zc zf x1
     have mc:=HN2.out.1.mach.cell
     have mf:=HN2.out.1.mach.free
     have zc:=HN2.out.2.2.1.cell
     have zf:=HN2.out.2.2.1.free
     have x1:wc.cell? ⟨X,1,none⟩=some (.int .i64 e.dt):=HN2.out.2.1.cell 1
     have hlf:=HN2.out.1.left
     rw [show (noteR true en false (tick s)).left=en :: l from HD.out.2.1] at hlf
     obtain ⟨a,c,e1,hlc,hcm,hcase⟩:=hlf
     obtain ⟨b,o,rfl,hbH,hcells⟩:=hcase.resolve_left (by simp)
     have e2:sv=.slice (some ⟨b,o,none⟩) (l.length+1) c:=e1
     have c2:wc.cell? ⟨K.M,2,none⟩=some (.slice (some ⟨b,o,none⟩) (l.length+1) c):=by rw [← e2];exact HN2.out.1.mach.cell 2
     have g2:wc.frozen? ⟨K.M,2,none⟩=false:=HN2.out.1.mach.free 2
     simp only [List.length_cons] at hlc
     have hb1:(1:Int)≤(c:Int):=by omega
     have hb2:(0:Int)<((l.length+1:Nat):Int):=by omega
     have hfl:=HN2.out.1.fl
     rw [show (noteR true en false (tick s)).left=en :: l from HD.out.2.1] at hfl
     have h4:wc.cell? ⟨Z,4,none⟩=some (.bool true):=HN2.out.2.2.1.cell 4
     have h0:wc.cell? ⟨Z,0,none⟩=some (.int .i64 0):=HN2.out.2.2.1.cell 0
     have HL:=zh (za hlc (za hcm (za hbH (za hcells hfl))))
     clear e1 e2 hlc hcm hbH hcells hfl hcase mc mf zc zf x1
     by_cases hc:c=1
     · subst hc
       obtain rfl:l=[]:=List.eq_nil_of_length_eq_zero (by have:=HL.out.1;omega)
       have HIA:IntsAt wc K.H0 [] (.slice (some ⟨b,o,none⟩) 0 0):=⟨_,0,rfl,Nat.le_refl _,Nat.zero_le _,.inl rfl⟩
       have HIH:=zh HIA
       clear HIA
       go_upto_region 9 with fail
       obtain ⟨W3,hW3⟩:∃ W,wc.setCell ⟨K.M,2,none⟩ (.slice (some ⟨b,o,none⟩) 0 0)=W:=⟨_,rfl⟩
       have ho3:Only K.M wc W3:=by rw [← hW3];exact (Only.refl K.M wc).setCell (p:=⟨K.M,2,none⟩) rfl _
       have hm3:Mk K W3 p 1 0 (inS (tick s)) (.slice (some ⟨b,o,none⟩) 0 0) (.slice (some ⟨gg,0,none⟩) (N+1) cap):=by
        have es:inS (tick s)={ noteR true en false (tick s) with left:=[] }:=by unfold inS;rw [show (tick s).left=en :: [] from HD.out.2.1];rfl
        rw [es]
        exact HN2.out.1.setM hk ho3 (by rw [← hW3];exact HN2.out.1.mach.set 2 _) rfl rfl rfl HIH.out HN2.out.1.few HN2.out.1.pt (fun x hx=>HL.out.2.2.2.2 x (List.mem_cons_of_mem _ hx))
       have hx3:Blk W3 X (edC e) 40:=HN2.out.2.1.only ho3 (fun e=>H2.out.2.2.2.2.2.1 e.symm)
       have hz3:=HN2.out.2.2.1.only ho3 (fun e=>H2.out.2.2.2.2.1 e.symm)
       have hkp3:Kp' K w W3:=HN2.out.2.2.2.trans (Kp'.only ho3 (nfix_M K))
       rw [hW3]
       have H3:=zh (za hm3 (za hx3 (za hz3 hkp3)))
       have z1:W3.cell? ⟨Z,1,none⟩=some (.pointer (some ⟨K.vb,e.dst.toNat,none⟩)):=by rw [← HPL.out];exact hz3.cell 1
       have z2:W3.cell? ⟨Z,2,none⟩=some (.int .i64 en):=hz3.cell 2
       have k0:W3.cell? ⟨K.vb,e.dst.toNat,none⟩=some (.int .i64 (s.vars.getD e.dst.toNat 0)):=(hm3.vars.cell _).trans (intsV_at _ _ (by rw [hm3.nv];exact HD.out.2.2))
       have k1:W3.frozen? ⟨K.vb,e.dst.toNat,none⟩=false:=hm3.vars.free _
       clear hW3 ho3 hm3 hx3 hz3 hkp3 c2 g2 h4 h0
       go_upto_region 11 with fail
       obtain ⟨W4,hW4⟩:∃ W,W3.setCell ⟨K.vb,e.dst.toNat,none⟩ (.int .i64 en)=W:=⟨_,rfl⟩
       have ho4:Only K.vb W3 W4:=by rw [← hW4];exact (Only.refl K.vb W3).setCell (p:=⟨K.vb,e.dst.toNat,none⟩) rfl _
       have hm4:Mk K W4 p 1 0 (putS (inS (tick s)) e.dst en) (.slice (some ⟨b,o,none⟩) 0 0) (.slice (some ⟨gg,0,none⟩) (N+1) cap):=by rw [← hW4];exact H3.out.1.setV hk e.dst.toNat (HL.out.2.2.2.2 en (List.mem_cons_self ..))
       have hXv:X≠K.vb:=by have h1:=hk.v1;have h2:=HSW.out;have h3:=HE.out.2;omega
       have hx4:Blk W4 X (edC e) 40:=H3.out.2.1.only ho4 hXv
       have hkp4:Kp' K w W4:=H3.out.2.2.2.trans (Kp'.only ho4 (nfix_v K))
       rw [hW4]
       have mc4:=hm4.mach.cell
       have mf4:=hm4.mach.free
       have x4:W4.cell? ⟨X,1,none⟩=some (.int .i64 e.dt):=hx4.cell 1
       have H4:=zh (za hm4 hkp4)
       clear hW4 ho4 hm4 hXv hx4 hkp4 z1 z2 k0 k1
       go_wp2_with fail
       go_end0
       have ho5:Only K.M W4 (W4.setCell ⟨K.M,25,none⟩ (.int .i64 e.dt)):=(Only.refl K.M W4).setCell (p:=⟨K.M,25,none⟩) rfl _
       refine ⟨rfl,H4.out.2.trans (Kp'.only ho5 (nfix_M K)),(.slice (some ⟨b,o,none⟩) 0 0),(.slice (some ⟨gg,0,none⟩) (N+1) cap),?_⟩
       rw [HD.out.1,if_pos rfl]
       exact H4.out.1.setM hk ho5 (by rw [HPT.out.2];exact H4.out.1.mach.set 25 _) rfl rfl rfl H4.out.1.left H4.out.1.few HPT.out.1 H4.out.1.fl
     · have HCC:=zh (show l.length≤c - 1∧c - 1≤maxLen by have h1:=HL.out.1;have h2:=HL.out.2.1;omega)
       have HIA:IntsAt wc K.H0 l (.slice (some ⟨b,o+1,none⟩) l.length (c - 1)):=⟨_,c - 1,rfl,HCC.out.1,HCC.out.2,.inr ⟨b,o+1,rfl,HL.out.2.2.1,fun i hi=>by have:=HL.out.2.2.2.1 (i+1) (by simpa using hi);rw [show o+1+i=o+(i+1) by omega];simpa using this⟩⟩
       have HIH:=zh HIA
       clear HIA
       go_upto_region 9 with fail
       obtain ⟨W3,hW3⟩:∃ W,wc.setCell ⟨K.M,2,none⟩ (.slice (some ⟨b,o+1,none⟩) l.length (c - 1))=W:=⟨_,rfl⟩
       have ho3:Only K.M wc W3:=by rw [← hW3];exact (Only.refl K.M wc).setCell (p:=⟨K.M,2,none⟩) rfl _
       have hm3:Mk K W3 p 1 0 (inS (tick s)) (.slice (some ⟨b,o+1,none⟩) l.length (c - 1)) (.slice (some ⟨gg,0,none⟩) (N+1) cap):=by
        have es:inS (tick s)={ noteR true en false (tick s) with left:=l }:=by unfold inS;rw [show (tick s).left=en :: l from HD.out.2.1];rfl
        rw [es]
        exact HN2.out.1.setM hk ho3 (by rw [← hW3];exact HN2.out.1.mach.set 2 _) rfl rfl rfl HIH.out HN2.out.1.few HN2.out.1.pt (fun x hx=>HL.out.2.2.2.2 x (List.mem_cons_of_mem _ hx))
       have hx3:Blk W3 X (edC e) 40:=HN2.out.2.1.only ho3 (fun e=>H2.out.2.2.2.2.2.1 e.symm)
       have hz3:=HN2.out.2.2.1.only ho3 (fun e=>H2.out.2.2.2.2.1 e.symm)
       have hkp3:Kp' K w W3:=HN2.out.2.2.2.trans (Kp'.only ho3 (nfix_M K))
       rw [hW3]
       have H3:=zh (za hm3 (za hx3 (za hz3 hkp3)))
       have z1:W3.cell? ⟨Z,1,none⟩=some (.pointer (some ⟨K.vb,e.dst.toNat,none⟩)):=by rw [← HPL.out];exact hz3.cell 1
       have z2:W3.cell? ⟨Z,2,none⟩=some (.int .i64 en):=hz3.cell 2
       have k0:W3.cell? ⟨K.vb,e.dst.toNat,none⟩=some (.int .i64 (s.vars.getD e.dst.toNat 0)):=(hm3.vars.cell _).trans (intsV_at _ _ (by rw [hm3.nv];exact HD.out.2.2))
       have k1:W3.frozen? ⟨K.vb,e.dst.toNat,none⟩=false:=hm3.vars.free _
       clear hW3 ho3 hm3 hx3 hz3 hkp3 c2 g2 h4 h0
       go_upto_region 11 with fail
       obtain ⟨W4,hW4⟩:∃ W,W3.setCell ⟨K.vb,e.dst.toNat,none⟩ (.int .i64 en)=W:=⟨_,rfl⟩
       have ho4:Only K.vb W3 W4:=by rw [← hW4];exact (Only.refl K.vb W3).setCell (p:=⟨K.vb,e.dst.toNat,none⟩) rfl _
       have hm4:Mk K W4 p 1 0 (putS (inS (tick s)) e.dst en) (.slice (some ⟨b,o+1,none⟩) l.length (c - 1)) (.slice (some ⟨gg,0,none⟩) (N+1) cap):=by rw [← hW4];exact H3.out.1.setV hk e.dst.toNat (HL.out.2.2.2.2 en (List.mem_cons_self ..))
       have hXv:X≠K.vb:=by have h1:=hk.v1;have h2:=HSW.out;have h3:=HE.out.2;omega
       have hx4:Blk W4 X (edC e) 40:=H3.out.2.1.only ho4 hXv
       have hkp4:Kp' K w W4:=H3.out.2.2.2.trans (Kp'.only ho4 (nfix_v K))
       rw [hW4]
       have mc4:=hm4.mach.cell
       have mf4:=hm4.mach.free
       have x4:W4.cell? ⟨X,1,none⟩=some (.int .i64 e.dt):=hx4.cell 1
       have H4:=zh (za hm4 hkp4)
       clear hW4 ho4 hm4 hXv hx4 hkp4 z1 z2 k0 k1
       go_wp2_with fail
       go_end0
       have ho5:Only K.M W4 (W4.setCell ⟨K.M,25,none⟩ (.int .i64 e.dt)):=(Only.refl K.M W4).setCell (p:=⟨K.M,25,none⟩) rfl _
       refine ⟨rfl,H4.out.2.trans (Kp'.only ho5 (nfix_M K)),(.slice (some ⟨b,o+1,none⟩) l.length (c - 1)),(.slice (some ⟨gg,0,none⟩) (N+1) cap),?_⟩
       rw [HD.out.1,if_pos rfl]
       exact H4.out.1.setM hk ho5 (by rw [HPT.out.2];exact H4.out.1.mach.set 25 _) rfl rfl rfl H4.out.1.left H4.out.1.few HPT.out.1 H4.out.1.fl
end Go.Proofs.YtmohmggnjldddaaGreatDoor
