/-
  Package step's deeds: proved is what each tells of an edge and the values: what goes wrong, where a number is put, the event.
-/
import Derived.Test.YtmohmggnjldddaaGreatDoorQStA
import Derived.Test.YtmohmggnjldddaaGreatDoorQAbb
namespace Go.Proofs.YtmohmggnjldddaaGreatDoor
set_option maxHeartbeats 8000000
set_option maxRecDepth 100000
open Go Go.RowKit Go.Maps
def rowU (w:World) (va:Value) (k:Nat):Value:=match plcA va k with
 | some a=>(w.cell? a).getD undef
 | none=>undef
structure EdV (s:Rn) (e:Ed):Prop where
 kd:1≤e.kd∧e.kd≤14
 dst:2≤e.kd∧e.kd≤10→0≤e.dst∧e.dst<s.vars.length
 arr:e.kd=10∨e.kd=11→0≤e.arr∧e.arr<s.arrs.length
 a:(2≤e.kd∧e.kd≤8)∨(10≤e.kd∧e.kd≤12)→e.av<0∨e.av<s.vars.length
 b:(4≤e.kd∧e.kd≤8)∨e.kd=11∨e.kd=12→e.bv<0∨e.bv<s.vars.length
 fa:fitsI e.an
 fb:fitsI e.bn
theorem row_at {w:World} {s:Rn} {vv va vi:Value} (h:VsAt w s vv va vi) (k:Nat) (hk:k<s.arrs.length):∃ b o,(∃ c,va=.slice (some ⟨b,o,none⟩) s.arrs.length c)∧w.cell? ⟨b,o+k,none⟩=some (rowU w va k)∧LgAt w s.arrs[k] (rowU w va k):=by
 obtain ⟨a,c,rfl,hr⟩:=h.a
 obtain ⟨b,o,rfl,hc⟩:=hr.resolve_left (by omega)
 obtain ⟨u,h1,h2⟩:=hc k hk
 have e:rowU w (.slice (some ⟨b,o,none⟩) s.arrs.length c) k=u:=by
  unfold rowU plcA
  simp only
  rw [h1]
  rfl
 refine ⟨b,o,⟨c,rfl⟩,?_,?_⟩
 · rw [e];exact h1
 · rw [e];exact h2
theorem stell_num (x:Int):tellV x=.tuple #[.int .i64 (numT x).1,.int .i64 (numT x).2]:=by
 unfold tellV numT
 split<;>rfl
def ddOf (U:Nat→Value) (vv:Value) (e:Ed) (s:Rn):Value :=
 if e.kd=2 then ddV 0 (plcA vv e.dst.toNat) (edVa e s) false false 0 false
 else if 3≤e.kd∧e.kd≤8 then (if (numK (e.kd+2) (edVa e s) (edVb e s)).2=0 then ddV 0 (plcA vv e.dst.toNat) (numK (e.kd+2) (edVa e s) (edVb e s)).1 false false 0 false else ddV (numK (e.kd+2) (edVa e s) (edVb e s)).2 none 0 false false 0 false)
 else if e.kd=9 then ddV 0 (plcA vv e.dst.toNat) (s.left.headD 0) true true (s.left.headD 0) false
 else if e.kd=10 then (if edVa e s<0∨((arrO s e.arr).length:Int)≤edVa e s then ddV 3 none 0 false false 0 false else ddV 0 (plcA vv e.dst.toNat) ((arrO s e.arr).getD (edVa e s).toNat 0) false false 0 false)
 else if e.kd=11 then (if edVa e s<0∨((arrO s e.arr).length:Int)≤edVa e s then ddV 3 none 0 false false 0 false else ddV 0 (plcA (U e.arr.toNat) (edVa e s).toNat) (edVb e s) false false 0 false)
 else if e.kd=13 then ddV 0 none 0 true false 0 true
 else if e.kd=14 then ddV 4 none 0 true false 0 false
 else ddV 0 none 0 false false 0 false
def DeedTo (w:World) (e:Ed) (s:Rn) (vv va:Value):Ending→World→Prop:=fun z w'=>z=.returned (ddOf (rowU w va) vv e s)∧Below w.heap.size w w'
theorem rowU_next {w w':World} {s:Rn} {vv va vi:Value} (h:VsAt w s vv va vi) (hb:Below w.heap.size w w') (k:Nat) (hk:k<s.arrs.length):rowU w' va k=rowU w va k:=by
 obtain ⟨b,o,⟨c,rfl⟩,h1,-⟩:=row_at h k hk
 have h2:=keeps_below hb _ _ _ h1
 show (w'.cell? ⟨b,o+k,none⟩).getD undef=(w.cell? ⟨b,o+k,none⟩).getD undef
 rw [h1,h2]
theorem stitem_any (vv va vi:Value) (s:Rn) (w:World) (hs:VsAt w s vv va vi) (e:Ed) (he:EdV s e) (hk:e.kd=10∨e.kd=11) :
    Calls Tryz.prog 136 #[vsV vv va vi,edgeV e] w (fun z w'=>z=.returned (.pointer (if edVa e s<0∨((arrO s e.arr).length:Int)≤edVa e s then none else plcA (rowU w va e.arr.toNat) (edVa e s).toNat))∧Below w.heap.size w w'):=by
 obtain ⟨X,hX⟩:∃ X,w.heap.size=X:=⟨_,rfl⟩
 obtain ⟨W1,hW1⟩:∃ W1,w.alloc (.cells #[vv,va,vi] 91)=W1:=⟨_,rfl⟩
 obtain ⟨Y,hY⟩:∃ Y,X+1=Y:=⟨_,rfl⟩
 obtain ⟨W2,hW2⟩:∃ W2,W1.alloc (.cells (edC e) 40)=W2:=⟨_,rfl⟩
 have hx2:Blk W2 X #[vv,va,vi] 91:=by rw [← hW2];exact (show Blk W1 X _ _ by rw [← hW1,← hX];exact Blk.new w _ _).alloc _
 have hs1:W1.heap.size=Y:=by rw [← hW1,World.size_alloc,hX,hY]
 have hy2:Blk W2 Y (edC e) 40:=by rw [← hW2,← hs1];exact Blk.new W1 _ _
 have hb1:Below w.heap.size w W1:=by rw [← hW1];exact (Below.refl _ w).alloc (Nat.le_refl _) _
 have hb2:Below w.heap.size w W2:=by rw [← hW2];exact hb1.alloc hb1.size _
 have hs2:=hs.next hb2
 have hV:=zh (fun W (hb:Below W2.heap.size W2 W)=>stvalue_any vv va vi s W (hs2.next hb).v e.av e.an (he.a (by omega)))
 obtain ⟨p,hp⟩:∃ p:Nat,e.arr=p:=⟨e.arr.toNat,by have:=he.arr hk;omega⟩
 have hpl:p<s.arrs.length:=by have:=he.arr hk;omega
 obtain ⟨b,o,⟨c,rfl⟩,hc1,hc2⟩:=row_at hs2 p hpl
 have hru:=rowU_next hs hb2 p hpl
 have y4:W2.cell? ⟨Y,4,none⟩=some (.int .i64 (p:Int)):=by rw [← hp];exact hy2.cell 4
 have har:arrO s e.arr=s.arrs[p]:=by unfold arrO;rw [hp,Int.toNat_natCast,List.getD_eq_getElem?_getD,List.getElem?_eq_getElem hpl];rfl
 have hfl:s.arrs[p].length≤maxLen:=hs.sz _ (List.getElem_mem hpl)
 rw [har,hp,Int.toNat_natCast]
 rw [hru] at hc1 hc2
 obtain ⟨V,hVV⟩:∃ V,edVa e s=V:=⟨_,rfl⟩
 have hVV2:valO s e.av e.an=V:=hVV
 rw [hVV]
 rw [hVV2] at hV
 obtain ⟨ra,rc,hrow,hrr⟩:=hc2
 replace hrr:s.arrs[p].length=0∨∃ b o,ra=some ⟨b,o,none⟩:=hrr.imp id (fun ⟨b,o,h,_⟩=>⟨b,o,h⟩)
 rw [hrow] at hc1 ⊢
 obtain ⟨N,hN⟩:∃ n,s.arrs[p].length=n:=⟨_,rfl⟩
 rw [hN] at hc1 hfl hrr ⊢
 have xc:=hx2.cell
 have yc:=hy2.cell
 have hpi:(p:Int)<(s.arrs.length:Int):=by omega
 have H2:=zh (za hx2 (za hy2 (za hb2 (za hrr hfl))))
 have HE:=zh (za hW1 (za hX (za hW2 hY)))
 clear hx2 hs1 hy2 hb1 hb2 hs2 hpl hru har hVV hVV2 hrow hN hW1 hX hW2 hY hs he hk hp hrr hfl
 by_cases hbad:V<0∨(N:Int)≤V
 · rw [if_pos hbad]
   rcases (show V<0∨(¬ V<0∧(N:Int)≤V) by omega) with h | ⟨h,h2⟩
   · have t1:decide (V<0)=true:=by simpa using h
     clear hbad h
     go_enter Tryz.func136,Tryz.ntmps136
     go_upto_region 1 with fail
     rw [HE.out.1,HE.out.2.1,HE.out.2.2.2,HE.out.2.2.1]
     have HC1:=zh hc1
     have KS:=fun w' (hW:Below W2.heap.size W2 w')=>(⟨(H2.out.1.next hW).cell 0,(H2.out.1.next hW).cell 1,(H2.out.1.next hW).cell 2,((H2.out.2.1.next hW).cell 4).trans (by rw [← y4];exact (H2.out.2.1.cell 4).symm),(H2.out.2.1.next hW).cell 6,(H2.out.2.1.next hW).cell 7,keeps_below hW _ _ _ HC1.out⟩:w'.cell? ⟨X,0,none⟩=some vv∧w'.cell? ⟨X,1,none⟩=some (.slice (some ⟨b,o,none⟩) s.arrs.length c)∧w'.cell? ⟨X,2,none⟩=some vi∧w'.cell? ⟨Y,4,none⟩=some (.int .i64 (p:Int))∧w'.cell? ⟨Y,6,none⟩=some (.int .i64 e.av)∧w'.cell? ⟨Y,7,none⟩=some (.int .i64 e.an)∧w'.cell? ⟨b,o+p,none⟩=some (.slice ra N rc))
     go_cut [5,6] (fun s1 s2 wx=>s1=.slice ra N rc∧s2=.int .i64 V∧Below w.heap.size w wx)
     case first =>
      go_region_held3 (fun w'=>w'.cell? ⟨X,0,none⟩=some vv∧w'.cell? ⟨X,1,none⟩=some (.slice (some ⟨b,o,none⟩) s.arrs.length c)∧w'.cell? ⟨X,2,none⟩=some vi∧w'.cell? ⟨Y,4,none⟩=some (.int .i64 (p:Int))∧w'.cell? ⟨Y,6,none⟩=some (.int .i64 e.av)∧w'.cell? ⟨Y,7,none⟩=some (.int .i64 e.an)∧w'.cell? ⟨b,o+p,none⟩=some (.slice ra N rc))
       ((with_reducible refine KS _ ?_;repeat (with_reducible (first | exact Below.refl _ _ | refine below_drew ?_ | refine below_next ?_ hb3 | fail))))
       (first | (go_at_call 100;(with_reducible refine (hV.out _ (by repeat (with_reducible (first | exact Below.refl _ _ | refine below_drew ?_ | fail)))).mono ?_);rintro z w3 ⟨rfl,hb3⟩))
      all_goals (go_wp2_with fail;go_meet;exact ⟨rfl,rfl,bel H2.out.2.2.1 (by repeat (with_reducible (first | exact Below.refl _ _ | refine below_drew ?_ | refine below_next ?_ hb3 | fail)))⟩)
     case rest =>
      obtain ⟨rfl,rfl,hb⟩:=hcut
      go_wp2_with fail
      go_ret
      exact ⟨rfl,hb⟩
   · have t1:decide (V<0)=false:=by simpa using h
     have t2:decide ((N:Int)≤V)=true:=by simpa using h2
     clear hbad h h2
     go_enter Tryz.func136,Tryz.ntmps136
     go_upto_region 1 with fail
     rw [HE.out.1,HE.out.2.1,HE.out.2.2.2,HE.out.2.2.1]
     have HC1:=zh hc1
     have KS:=fun w' (hW:Below W2.heap.size W2 w')=>(⟨(H2.out.1.next hW).cell 0,(H2.out.1.next hW).cell 1,(H2.out.1.next hW).cell 2,((H2.out.2.1.next hW).cell 4).trans (by rw [← y4];exact (H2.out.2.1.cell 4).symm),(H2.out.2.1.next hW).cell 6,(H2.out.2.1.next hW).cell 7,keeps_below hW _ _ _ HC1.out⟩:w'.cell? ⟨X,0,none⟩=some vv∧w'.cell? ⟨X,1,none⟩=some (.slice (some ⟨b,o,none⟩) s.arrs.length c)∧w'.cell? ⟨X,2,none⟩=some vi∧w'.cell? ⟨Y,4,none⟩=some (.int .i64 (p:Int))∧w'.cell? ⟨Y,6,none⟩=some (.int .i64 e.av)∧w'.cell? ⟨Y,7,none⟩=some (.int .i64 e.an)∧w'.cell? ⟨b,o+p,none⟩=some (.slice ra N rc))
     go_cut [5,6] (fun s1 s2 wx=>s1=.slice ra N rc∧s2=.int .i64 V∧Below w.heap.size w wx)
     case first =>
      go_region_held3 (fun w'=>w'.cell? ⟨X,0,none⟩=some vv∧w'.cell? ⟨X,1,none⟩=some (.slice (some ⟨b,o,none⟩) s.arrs.length c)∧w'.cell? ⟨X,2,none⟩=some vi∧w'.cell? ⟨Y,4,none⟩=some (.int .i64 (p:Int))∧w'.cell? ⟨Y,6,none⟩=some (.int .i64 e.av)∧w'.cell? ⟨Y,7,none⟩=some (.int .i64 e.an)∧w'.cell? ⟨b,o+p,none⟩=some (.slice ra N rc))
       ((with_reducible refine KS _ ?_;repeat (with_reducible (first | exact Below.refl _ _ | refine below_drew ?_ | refine below_next ?_ hb3 | fail))))
       (first | (go_at_call 100;(with_reducible refine (hV.out _ (by repeat (with_reducible (first | exact Below.refl _ _ | refine below_drew ?_ | fail)))).mono ?_);rintro z w3 ⟨rfl,hb3⟩))
      all_goals (go_wp2_with fail;go_meet;exact ⟨rfl,rfl,bel H2.out.2.2.1 (by repeat (with_reducible (first | exact Below.refl _ _ | refine below_drew ?_ | refine below_next ?_ hb3 | fail)))⟩)
     case rest =>
      obtain ⟨rfl,rfl,hb⟩:=hcut
      go_wp2_with fail
      go_ret
      exact ⟨rfl,hb⟩
 · rw [if_neg hbad]
   have t1:decide (V<0)=false:=by simp;omega
   have t2:decide ((N:Int)≤V)=false:=by simp;omega
   obtain ⟨q,rfl⟩:∃ q:Nat,V=q:=⟨V.toNat,by omega⟩
   obtain ⟨b2,o2,rfl⟩:=H2.out.2.2.2.1.resolve_left (by omega)
   have hqi:(q:Int)<(N:Int):=by omega
   rw [Int.toNat_natCast]
   clear hbad
   go_enter Tryz.func136,Tryz.ntmps136
   go_upto_region 1 with fail
   rw [HE.out.1,HE.out.2.1,HE.out.2.2.2,HE.out.2.2.1]
   have HC1:=zh hc1
   have KS:=fun w' (hW:Below W2.heap.size W2 w')=>(⟨(H2.out.1.next hW).cell 0,(H2.out.1.next hW).cell 1,(H2.out.1.next hW).cell 2,((H2.out.2.1.next hW).cell 4).trans (by rw [← y4];exact (H2.out.2.1.cell 4).symm),(H2.out.2.1.next hW).cell 6,(H2.out.2.1.next hW).cell 7,keeps_below hW _ _ _ HC1.out⟩:w'.cell? ⟨X,0,none⟩=some vv∧w'.cell? ⟨X,1,none⟩=some (.slice (some ⟨b,o,none⟩) s.arrs.length c)∧w'.cell? ⟨X,2,none⟩=some vi∧w'.cell? ⟨Y,4,none⟩=some (.int .i64 (p:Int))∧w'.cell? ⟨Y,6,none⟩=some (.int .i64 e.av)∧w'.cell? ⟨Y,7,none⟩=some (.int .i64 e.an)∧w'.cell? ⟨b,o+p,none⟩=some (.slice (some ⟨b2,o2,none⟩) N rc))
   go_cut [5,6] (fun s1 s2 wx=>s1=.slice (some ⟨b2,o2,none⟩) N rc∧s2=.int .i64 q∧Below w.heap.size w wx)
   case first =>
    go_region_held3 (fun w'=>w'.cell? ⟨X,0,none⟩=some vv∧w'.cell? ⟨X,1,none⟩=some (.slice (some ⟨b,o,none⟩) s.arrs.length c)∧w'.cell? ⟨X,2,none⟩=some vi∧w'.cell? ⟨Y,4,none⟩=some (.int .i64 (p:Int))∧w'.cell? ⟨Y,6,none⟩=some (.int .i64 e.av)∧w'.cell? ⟨Y,7,none⟩=some (.int .i64 e.an)∧w'.cell? ⟨b,o+p,none⟩=some (.slice (some ⟨b2,o2,none⟩) N rc))
     ((with_reducible refine KS _ ?_;repeat (with_reducible (first | exact Below.refl _ _ | refine below_drew ?_ | refine below_next ?_ hb3 | fail))))
     (first | (go_at_call 100;(with_reducible refine (hV.out _ (by repeat (with_reducible (first | exact Below.refl _ _ | refine below_drew ?_ | fail)))).mono ?_);rintro z w3 ⟨rfl,hb3⟩))
    all_goals (go_wp2_with fail;go_meet;exact ⟨rfl,rfl,bel H2.out.2.2.1 (by repeat (with_reducible (first | exact Below.refl _ _ | refine below_drew ?_ | refine below_next ?_ hb3 | fail)))⟩)
   case rest =>
    obtain ⟨rfl,rfl,hb⟩:=hcut
    go_wp2_with fail
    go_ret
    exact ⟨rfl,hb⟩
theorem stnothing_any (vv va vi:Value) (s:Rn) (w:World) (e:Ed) (hk:e.kd=1∨e.kd=12) :
    Calls Tryz.prog 86 #[vsV vv va vi,edgeV e] w (DeedTo w e s vv va):=by
 obtain ⟨W1,X,W2,Y,W3,R,hE,hx,hy,hr,hb,hwX,hXR,hYR,hsz⟩:=st3 w #[vv,va,vi] (edC e) dd0 91 40 166
 have hd:ddOf (rowU w va) vv e s=.agg (ddC 0 none 0 false false 0 false):=by
  unfold ddOf
  rw [if_neg (by omega),if_neg (by omega),if_neg (by omega),if_neg (by omega),if_neg (by omega),if_neg (by omega),if_neg (by omega)]
 unfold DeedTo
 rw [hd]
 have rc:=hr.cell
 have rf:=hr.free
 have HB:=zh (za hr (za hb (Nat.le_trans hwX (Nat.le_of_lt hXR))))
 have HE:=zh hE
 clear hy hx hb hE hwX hXR hYR hr hsz hd hk
 go_enter Tryz.func86,Tryz.ntmps86
 go_upto_region 1 with fail
 rw [HE.out.1,HE.out.2.1,HE.out.2.2.1,HE.out.2.2.2.1,HE.out.2.2.2.2.1,HE.out.2.2.2.2.2]
 go_wp2_with fail
 refine bodyPost_ret (results_cell_row rfl _ _ R _ (ddC 0 none 0 false false 0 false) _ _ rfl (dput7_blk HB.out.1 _ _ _ _ _ _ _) rfl rfl (by kernel_rfl)) rfl ?_
 exact ⟨rfl,HB.out.2.1.trans ((dput7_only W3 R _ _ _ _ _ _ _).old HB.out.2.2 HB.out.2.1.size)⟩
theorem stpass_any (vv va vi:Value) (s:Rn) (w:World) (e:Ed) (hk:e.kd=13) :
    Calls Tryz.prog 97 #[vsV vv va vi,edgeV e] w (DeedTo w e s vv va):=by
 obtain ⟨W1,X,W2,Y,W3,R,hE,hx,hy,hr,hb,hwX,hXR,hYR,hsz⟩:=st3 w #[vv,va,vi] (edC e) dd0 91 40 166
 have hd:ddOf (rowU w va) vv e s=.agg (ddC 0 none 0 true false 0 true):=by
  unfold ddOf
  rw [if_neg (by omega),if_neg (by omega),if_neg (by omega),if_neg (by omega),if_neg (by omega),if_pos hk]
 unfold DeedTo
 rw [hd]
 have rc:=hr.cell
 have rf:=hr.free
 have HB:=zh (za hr (za hb (Nat.le_trans hwX (Nat.le_of_lt hXR))))
 have HE:=zh hE
 clear hy hx hb hE hwX hXR hYR hr hsz hd hk
 go_enter Tryz.func97,Tryz.ntmps97
 go_upto_region 1 with fail
 rw [HE.out.1,HE.out.2.1,HE.out.2.2.1,HE.out.2.2.2.1,HE.out.2.2.2.2.1,HE.out.2.2.2.2.2]
 go_wp2_with fail
 refine bodyPost_ret (results_cell_row rfl _ _ R _ (ddC 0 none 0 true false 0 true) _ _ rfl (dput7_blk HB.out.1 _ _ _ _ _ _ _) rfl rfl (by kernel_rfl)) rfl ?_
 exact ⟨rfl,HB.out.2.1.trans ((dput7_only W3 R _ _ _ _ _ _ _).old HB.out.2.2 HB.out.2.1.size)⟩
theorem stfail_any (vv va vi:Value) (s:Rn) (w:World) (e:Ed) (hk:e.kd=14) :
    Calls Tryz.prog 98 #[vsV vv va vi,edgeV e] w (DeedTo w e s vv va):=by
 obtain ⟨W1,X,W2,Y,W3,R,hE,hx,hy,hr,hb,hwX,hXR,hYR,hsz⟩:=st3 w #[vv,va,vi] (edC e) dd0 91 40 166
 have hd:ddOf (rowU w va) vv e s=.agg (ddC 4 none 0 true false 0 false):=by
  unfold ddOf
  rw [if_neg (by omega),if_neg (by omega),if_neg (by omega),if_neg (by omega),if_neg (by omega),if_neg (by omega),if_pos hk]
 unfold DeedTo
 rw [hd]
 have rc:=hr.cell
 have rf:=hr.free
 have HB:=zh (za hr (za hb (Nat.le_trans hwX (Nat.le_of_lt hXR))))
 have HE:=zh hE
 clear hy hx hb hE hwX hXR hYR hr hsz hd hk
 go_enter Tryz.func98,Tryz.ntmps98
 go_upto_region 1 with fail
 rw [HE.out.1,HE.out.2.1,HE.out.2.2.1,HE.out.2.2.2.1,HE.out.2.2.2.2.1,HE.out.2.2.2.2.2]
 go_wp2_with fail
 refine bodyPost_ret (results_cell_row rfl _ _ R _ (ddC 4 none 0 true false 0 false) _ _ rfl (dput7_blk HB.out.1 _ _ _ _ _ _ _) rfl rfl (by kernel_rfl)) rfl ?_
 exact ⟨rfl,HB.out.2.1.trans ((dput7_only W3 R _ _ _ _ _ _ _).old HB.out.2.2 HB.out.2.1.size)⟩
end Go.Proofs.YtmohmggnjldddaaGreatDoor
