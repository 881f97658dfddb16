/-
  A region that draws its order, in which one call makes memory and any operation may store: proved is that it ends with each operation's value in its place, whatever its order, where one value is known only when its call has come up, and what has come of memory is told by what has come up.
-/
import Derived.Test.YtmohmggnjldddaaGreatDoorQStJ
import Derived.Test.YtmohmggnjldddaaGreatDoorQStA
import Derived.Deep.RegionLaw
import Derived.Deep.AppendLies
import Derived.Test.YtmohmggnjldddaaGreatDoorQReg
import Derived.Test.YtmohmggnjldddaaGreatDoorQAbb
namespace Go.Proofs.YtmohmggnjldddaaGreatDoor
set_option maxHeartbeats 8000000
set_option maxRecDepth 100000
open Go Go.RowKit Go.Maps
theorem info_i64:(Tryz.prog.info? 2).map (fun i=>(i.zero,i.size,i.bytes))=some (some (.int .i64 0),1,8):=by kernel_rfl
theorem clone_ints (b:Nat) (l:List Int) (c:Nat) (w:World) (h:∀ i (h:i<l.length),w.cell? ⟨b,i,none⟩=some (.int .i64 l[i])) (hl:l.length≤1024) :
    Calls Tryz.prog 51 #[.slice (some ⟨b,0,none⟩) l.length c] w (fun e w'=>∃ d cc,e=.returned (.slice (some ⟨d,0,none⟩) l.length cc)∧w.heap.size≤d∧l.length≤cc∧cc≤maxLen∧(∀ i,i<l.length→w'.cell? ⟨d,i,none⟩=some (.int .i64 (l.getD i 0)))∧Below w.heap.size w w'):=by
 have hEq:∀ w:World,(Op.equal 42 (.slice (some ⟨b,0,none⟩) l.length c) (.slice none 0 0)).run Tryz.prog w=.ok false w:=fun w=>by
  have hu:Tryz.prog.underlying 42=some (.slice 2):=Tryz.underlying42
  have h:∀ d:Nat,(Op.equalIn (d+1) 42 (.slice (some ⟨b,0,none⟩) l.length c) (.slice none 0 0)).run Tryz.prog w=.ok false w:=fun d=>by simp [Op.equalIn,run_underlying hu]
  simp [Op.equal,Op.maxDepth,h 9999]
 have hEqB:∀ w:World,(binOp BinOp.eql 42 (.slice (some ⟨b,0,none⟩) l.length c) (.slice none 0 0)).run Tryz.prog w=.ok (.bool false) w:=fun w=>by simp [binOp,go_sem,hEq w]
 clear hEq
 obtain ⟨i0,hi0,hz0,hz1,hz2⟩:=info_parts info_i64
 have HI0:=zh (za hi0 (za hz0 (za hz1 hz2)))
 have hrow:∀ (j:Nat) u,(l.map (Value.int .i64))[j]?=some u→(w.alloc (.cells #[] 2)).cell? ((⟨b,0,none⟩:Addr).add j)=some u:=fun j u hj=>by
  rw [List.getElem?_map] at hj
  cases hj2:l[j]? with
  | none=>rw [hj2] at hj;cases hj
  | some x =>
    rw [hj2] at hj
    obtain ⟨hjl,hx⟩:=List.getElem?_eq_some_iff.1 hj2
    have h1:=h j hjl
    rw [hx] at h1
    rw [add_none,Nat.zero_add]
    have hlt:=World.block_lt_of_cell? w _ h1
    rw [← Option.some.inj hj]
    exact (World.cell?_of_block (w:=w) (a:=⟨b,j,none⟩) (heap_alloc_old w _ hlt)).trans h1
 have hown:(w.alloc (.cells #[] 2)).ownsRow w.heap.size 2 1 (.slice (some ⟨w.heap.size,0,none⟩) 0 0) 0 []:=⟨rfl,.inr ⟨w.heap.size,0,#[],rfl,Nat.le_refl _,heap_alloc_new w _,Nat.le_refl _,Nat.zero_le _,rfl,rfl⟩⟩
 by_cases hl0:l=[]
 · subst hl0
   simp only [List.length_nil] at hEqB
   clear h hl hrow hown
   go_enter Tryz.func51,Tryz.ntmps51
   go_wp2_with fail
   go_ret
   exact ⟨w.heap.size,0,rfl,Nat.le_refl _,Nat.le_refl _,Nat.zero_le _,fun i h=>absurd h (Nat.not_lt_zero i),(Below.refl _ w).alloc (Nat.le_refl _) _⟩
 · have hpos:0<l.length:=List.length_pos_iff.2 hl0
   have HA:=zh (fun (ops:Array Oper) (rest:List Oper) (o:Oper) (a:Act) (Q:Exit→Act→World→Prop) (hgd:o.guard=none) (ho:o.op=.call { callee:=.builtin .append,args:=#[(.tmp 5),(.tmp 6)],argTypes:=#[42,42] }) (hs:a.eval (.tmp 5)=.slice (some ⟨w.heap.size,0,none⟩) 0 0) (hx:a.eval (.tmp 6)=.slice (some ⟨b,0,none⟩) l.length c) =>
    @wpList_append_lies Tryz.prog (w.alloc (.cells #[] 2)) ops rest o a Q hgd _ _ _ ho w.heap.size 2 i0 _ 1 8 Tryz.underlying42 hi0 hz0 hz1 hz2 rfl (by omega) _ 0 [] hs hown ⟨b,0,none⟩ l.length c (l.map (Value.int .i64)) hx (by simp) hrow (fun u hu=>by obtain ⟨x,-,rfl⟩:=List.mem_map.1 hu;rfl) hpos (by unfold maxLen;omega) (by omega) (by rw [World.size_alloc];omega) (w.heap.size+1) (World.size_alloc _ _))
   have HC:=zh hpos
   clear hi0 hz0 hz1 hz2 h hl hrow hown hl0 hpos
   go_enter Tryz.func51,Tryz.ntmps51
   go_wp2_with (first | (refine HA.out _ _ _ _ _ rfl rfl rfl rfl ?_;intro g cap w' h1 h2 h3 h4) | fail)
   go_ret
   rw [Nat.zero_add,List.nil_append] at h1
   have hcell:=fun i u hx=>h1.cells (rfl:(Value.slice (some ⟨g,0,none⟩) l.length cap).ownBlock=some g) i u hx
   have hle:l.length≤cap∧cap≤maxLen:=by
    rcases h1.2 with ⟨e,_⟩ | ⟨g',cap',cur,e,_,_,hn,hm,_⟩
    · cases e
    · cases e;exact ⟨hn,hm⟩
   have hb:Below w.heap.size w w':=((Below.refl _ w).alloc (Nat.le_refl _) _).grown h2 (by rw [World.size_alloc];omega) (fun k hk=>by cases hk;exact Nat.le_refl _)
   refine ⟨g,cap,rfl,?_,hle.1,hle.2,fun i hi=>?_,hb⟩
   · have:=(h1.lt g rfl).1
     exact this
   · have:=hcell i (.int .i64 l[i]) (by simp [hi])
     rw [List.getD_eq_getElem?_getD,List.getElem?_eq_getElem hi,Option.getD_some]
     simpa [add_none] using this
theorem below_at {w w':World} {B:Nat} (h:Below B w w') {Z:Nat} (hz:B≤Z) (j:Nat) (u:Value):Below B w (w'.setCell ⟨Z,j,none⟩ u):=h.setCell hz u
theorem below_drewB {w w':World} {B:Nat} (h:Below B w w'):Below B w w'.drew:=h.drew
theorem below_up {w w' w'':World} {B:Nat} (h:Below B w w') (hb:Below w'.heap.size w' w'') (hs:B≤w'.heap.size):Below B w w'':=h.trans (hb.mono hs)
def OutV (K:Ks) (st wr:Int) (s:Rn) (ve:Value) (w:World):Ending→World→Prop:=fun e w'=>∃ d cc,e=.returned (.agg #[.int .i64 st,.int .i64 wr,.int .i64 s.steps,ve,.slice (some ⟨d,0,none⟩) K.g.vs.length cc,K.va])∧w.heap.size≤d∧K.g.vs.length≤cc∧cc≤maxLen∧(∀ i,i<K.g.vs.length→w'.cell? ⟨d,i,none⟩=some (.int .i64 ((s.vars.take K.g.vs.length).getD i 0)))∧Below w.heap.size w w'
theorem outcome_st (K:Ks) (hk:K.ok) (w:World) (p:Nat) (st wr:Int) (s:Rn) (sv ve:Value) (h:Mk K w p st wr s sv ve) :
    Calls Tryz.prog 32 #[.pointer (some ⟨K.M,0,none⟩)] w (OutV K st wr s ve w):=by
 obtain ⟨ea,ec,rfl,-⟩:=own_len h.evs
 obtain ⟨NE,hNE⟩:∃ n,s.evs.length=n:=⟨_,rfl⟩
 rw [hNE] at h ⊢
 clear hNE
 obtain ⟨ve,hve⟩:∃ v,Value.slice ea NE ec=v:=⟨_,rfl⟩
 rw [hve] at h ⊢
 obtain ⟨ra,rc,hva,-⟩:=hk.rows
 have hnn:=len_n hk
 have hvl:K.g.vs.length≤s.vars.length∧s.vars.length≤1024:=by
  have h1:=h.nv
  have h2:K.g.nv=(K.g.vs.length:Int)+K.g.tmp:=rfl
  omega
 obtain ⟨LV,hLV⟩:∃ l,s.vars.take K.g.vs.length=l:=⟨_,rfl⟩
 have hLl:LV.length=K.g.vs.length:=by rw [← hLV,List.length_take];omega
 have hnvl:(K.g.vs.length:Int)≤(K.nvt:Int):=by have:=h.nv;omega
 obtain ⟨A,hA⟩:∃ x,w.heap.size=x:=⟨_,rfl⟩
 obtain ⟨W1,hW1⟩:∃ W,w.alloc (.cells #[.int .i64 0,.int .i64 0,.int .i64 0,.slice none 0 0,.slice none 0 0,.slice none 0 0] 47)=W:=⟨_,rfl⟩
 obtain ⟨Z,hZ⟩:∃ x,W1.heap.size=x:=⟨_,rfl⟩
 obtain ⟨W2,hW2⟩:∃ W,W1.alloc (.cells #[.int .i64 st,.int .i64 wr,.int .i64 s.steps,ve,.slice none 0 0,.slice none 0 0] 47)=W:=⟨_,rfl⟩
 have ha1:Blk W1 A #[.int .i64 0,.int .i64 0,.int .i64 0,.slice none 0 0,.slice none 0 0,.slice none 0 0] 47:=by rw [← hW1,← hA];exact Blk.new w _ _
 have hz2:Blk W2 Z #[.int .i64 st,.int .i64 wr,.int .i64 s.steps,ve,.slice none 0 0,.slice none 0 0] 47:=by rw [← hW2,← hZ];exact Blk.new W1 _ _
 have hb1:Below w.heap.size w W1:=by rw [← hW1];exact (Below.refl _ w).alloc (Nat.le_refl _) _
 have hb2:Below W1.heap.size W1 W2:=by rw [← hW2];exact (Below.refl _ W1).alloc (Nat.le_refl _) _
 have hm1:=h.next hk hb1
 have hm2:=hm1.next hk hb2
 have hAZ:A+1=Z:=by rw [← hZ,← hW1,World.size_alloc,hA]
 have hMA:K.M<A:=by rw [← hA];exact h.mach.lt
 have hvA:K.vb<A:=by rw [← hA];exact h.vars.lt
 have hcell:∀ W,Below Z W2 W→∀ i (hi:i<LV.length),W.cell? ⟨K.vb,i,none⟩=some (.int .i64 LV[i]):=fun W hb i hi=>by
  have h1:=(hm2.vars.below hb (by omega)).cell i
  rw [intsV_at _ _ (by omega)] at h1
  rw [h1]
  subst hLV
  rw [List.getElem_take,List.getD_eq_getElem?_getD,List.getElem?_eq_getElem (by rw [hLl] at hi;omega),Option.getD_some]
 have g26:W1.cell? ⟨K.M,26,none⟩=some (.int .i64 st):=hm1.mach.cell 26
 have g27:W1.cell? ⟨K.M,27,none⟩=some (.int .i64 wr):=hm1.mach.cell 27
 have g28:W1.cell? ⟨K.M,28,none⟩=some (.int .i64 s.steps):=hm1.mach.cell 28
 have g29:W1.cell? ⟨K.M,29,none⟩=some ve:=hm1.mach.cell 29
 have g30:W1.cell? ⟨K.M,30,none⟩=some (.slice none 0 0):=hm1.mach.cell 30
 have g31:W1.cell? ⟨K.M,31,none⟩=some (.slice none 0 0):=hm1.mach.cell 31
 obtain ⟨NV,hNV⟩:∃ n,K.g.vs.length=n:=⟨_,rfl⟩
 have KS:=fun w' (hW:Below Z W2 w')=>(⟨(hm2.mach.below hW (by omega)).cell 0,(hm2.mach.below hW (by omega)).cell 1,(by rw [← hNV];exact (hm2.mach.below hW (by omega)).cell 3)⟩:w'.cell? ⟨K.M,0,none⟩=some (.slice (some ⟨K.vb,0,none⟩) K.nvt K.nvt)∧w'.cell? ⟨K.M,1,none⟩=some K.va∧w'.cell? ⟨K.M,3,none⟩=some (.slice K.av NV K.cv))
 rw [hNV] at hnvl hLl
 have HCL:=zh (fun W (hb:Below Z W2 W)=>by have h:=clone_ints K.vb LV K.nvt W (hcell W hb) (by omega);rw [hLl] at h;exact h)
 rw [hva] at KS
 have HW:=zh (za hW1 (za hA (za hW2 hZ)))
 have HB:=zh (za ha1 (za hz2 (za hb1 (za hb2 (za hAZ (za hLV (za hLl hNV)))))))
 have hZZ:Z≤Z:=Nat.le_refl _
 unfold OutV
 rw [hNV,hva]
 clear hnn hvl hLV hLl ha1 hz2 hb1 hb2 hm1 hm2 hAZ hMA hvA hcell hW1 hA hW2 hZ h hNV hva
 subst hve
 go_enter Tryz.func32,Tryz.ntmps32
 go_upto_region 1 with fail
 rw [HW.out.1,HW.out.2.1]
 go_upto_region 2 with fail
 rw [HW.out.2.2.1,HW.out.2.2.2]
 go_cut [] (fun wx=>∃ d cc,Blk wx Z #[.int .i64 st,.int .i64 wr,.int .i64 s.steps,.slice ea NE ec,.slice (some ⟨d,0,none⟩) NV cc,.slice ra K.ab.length rc] 47∧Z<d∧NV≤cc∧cc≤maxLen∧(∀ i (h:i<NV),wx.cell? ⟨d,i,none⟩=some (.int .i64 (LV.getD i 0)))∧Below Z W2 wx)
 case first =>
  have hsz:Z≤W2.heap.size:=Nat.le_of_lt HB.out.2.1.lt
  go_region_held3 (fun w'=>w'.cell? ⟨K.M,0,none⟩=some (.slice (some ⟨K.vb,0,none⟩) K.nvt K.nvt)∧w'.cell? ⟨K.M,1,none⟩=some (.slice ra K.ab.length rc)∧w'.cell? ⟨K.M,3,none⟩=some (.slice K.av NV K.cv))
   ((with_reducible refine KS _ ?_;repeat (with_reducible (first | exact Below.refl _ _ | refine below_drewB ?_ | refine below_at ?_ hZZ _ _ | exact below_up hq4 hb4 hs4 | refine below_up ?_ hb4 hs4 | fail))))
   (first | (go_at_call 51;(with_reducible refine (HCL.out _ (by repeat (with_reducible (first | exact Below.refl _ _ | refine below_drewB ?_ | refine below_at ?_ hZZ _ _ | fail)))).mono ?_);rintro z w4 ⟨d,cc,rfl,hd1,hd2,hd3,hd4,hb4⟩;(have hs4:Z≤W2.drew.heap.size:=hsz);(have qb:Blk w4 Z #[.int .i64 st,.int .i64 wr,.int .i64 s.steps,.slice ea NE ec,.slice none 0 0,.slice none 0 0] 47:=Blk.next (by first | exact HB.out.2.1 | exact HB.out.2.1) hb4);have f0:=qb.free 4;have f1:=qb.free 5;have c4:=qb.cell 4;have c5:=qb.cell 5))
  all_goals
   go_wp2_with fail
   go_meet
   have hdW:W2.heap.size≤d:=hd1
   have hdZ:Z<d:=Nat.lt_of_lt_of_le HB.out.2.1.lt hdW
   have hbz4:Below Z W2 w4:=below_up (below_drewB (Below.refl Z W2)) hb4 hsz
   first
    | exact ⟨d,cc,(qb.set 4 _).set 5 _,hdZ,hd2,hd3,fun i hi=>only_cell (((Only.refl Z w4).setCell (p:=⟨Z,4,none⟩) rfl _).setCell (p:=⟨Z,5,none⟩) rfl _) (hd4 i hi) (by show d≠Z;omega),below_at (below_at hbz4 hZZ 4 _) hZZ 5 _⟩
    | exact ⟨d,cc,(qb.set 5 _).set 4 _,hdZ,hd2,hd3,fun i hi=>only_cell (((Only.refl Z w4).setCell (p:=⟨Z,5,none⟩) rfl _).setCell (p:=⟨Z,4,none⟩) rfl _) (hd4 i hi) (by show d≠Z;omega),below_at (below_at hbz4 hZZ 5 _) hZZ 4 _⟩
 case rest =>
  obtain ⟨d,cc,hz,hZd,hcc,hcm,hcd,hbz⟩:=hcut
  have z0:wc.cell? ⟨Z,0,none⟩=some (.int .i64 st):=hz.cell 0
  have z1:wc.cell? ⟨Z,1,none⟩=some (.int .i64 wr):=hz.cell 1
  have z2:wc.cell? ⟨Z,2,none⟩=some (.int .i64 s.steps):=hz.cell 2
  have z3:wc.cell? ⟨Z,3,none⟩=some (.slice ea NE ec):=hz.cell 3
  have z4:wc.cell? ⟨Z,4,none⟩=some (.slice (some ⟨d,0,none⟩) NV cc):=hz.cell 4
  have z5:wc.cell? ⟨Z,5,none⟩=some (.slice ra K.ab.length rc):=hz.cell 5
  have hac:=(HB.out.1.next HB.out.2.2.2.1).below hbz (by have:=HB.out.2.2.2.2.1;omega)
  have hac2:=hac
  have ac:=hac.cell
  have af:=hac.free
  have HZ:=zh (za hz (za hZd (za hcc (za hcm (za hcd (za hbz hac))))))
  clear hz hZd hcc hcm hcd hbz hac
  have HAC:=zh hac2
  clear hac2
  go_wp2_with fail
  have hA6:=cput6_blk HAC.out (.int .i64 st) (.int .i64 wr) (.int .i64 s.steps) (.slice ea NE ec) (.slice (some ⟨d,0,none⟩) NV cc) (.slice ra K.ab.length rc)
  refine bodyPost_ret (results_cell_row rfl _ _ A _ _ _ _ rfl hA6 rfl rfl (by kernel_rfl)) rfl ?_
  obtain ⟨hz,hZd,hcc,hcm,hcd,hbz,hac⟩:=HZ.out
  have hAw:=HW.out.2.1
  have hAZ:=HB.out.2.2.2.2.1
  have ho:=cput6_only wc A (.int .i64 st) (.int .i64 wr) (.int .i64 s.steps) (.slice ea NE ec) (.slice (some ⟨d,0,none⟩) NV cc) (.slice ra K.ab.length rc)
  have hbw:Below w.heap.size w wc:=(bel HB.out.2.2.1 HB.out.2.2.2.1).trans (hbz.mono (by omega))
  refine ⟨d,cc,rfl,by omega,hcc,hcm,fun i hi=>?_,hbw.trans (ho.old (by omega) hbw.size)⟩
  have hq:=only_cell ho (hcd i hi) (by show d≠A;omega)
  have e:LV=s.vars.take NV:=by rw [← HB.out.2.2.2.2.2.2.2];exact HB.out.2.2.2.2.2.1.symm
  rw [e] at hq
  exact hq
open Go Go.RowKit
theorem up_self {l:Array Bool} {i:Nat} (h:i<l.size):(l.setIfInBounds i true).getD i false=true:=by simp [h]
theorem up_not {l:Array Bool} {i:Nat} (h:l.getD i true=false):l.getD i false=false:=by
 rw [Array.getD_eq_getD_getElem?] at h ⊢
 cases hl:l[i]? with
 | none=>rfl
 | some b=>rw [hl] at h;exact h
def putM:List (Option Tmp)→(Nat→Value)→Nat→Act→Act
 | [],_,_,a=>a
 | t :: r,vs,i,a=>putM r vs (i+1) (a.put t (vs i))
theorem putN_get (a:Act) (d:Option Tmp) (t:Tmp) (v:Value):(a.put d v).tmps[t]?=if d=some t then (if t<a.tmps.size then some v else none) else a.tmps[t]?:=by
 cases d with
 | none=>rfl
 | some s =>
   rw [put_get]
   by_cases h:s=t
   · subst h;simp
   · rw [if_neg h,if_neg (fun e=>h (Option.some.inj e))]
theorem putN_size (a:Act) (d:Option Tmp) (v:Value):(a.put d v).tmps.size=a.tmps.size:=by
 cases d with
 | none=>rfl
 | some s=>exact put_size a s v
theorem putN_defers (a:Act) (d:Option Tmp) (v:Value):(a.put d v).defers=a.defers:=by cases d<;>rfl
theorem putM_size:∀ (ds:List (Option Tmp)) (vs:Nat→Value) (k:Nat) (a:Act),(putM ds vs k a).tmps.size=a.tmps.size
 | [],_,_,_=>rfl
 | t :: r,vs,k,a=>by rw [putM,putM_size r,putN_size]
theorem putM_defers:∀ (ds:List (Option Tmp)) (vs:Nat→Value) (k:Nat) (a:Act),(putM ds vs k a).defers=a.defers
 | [],_,_,_=>rfl
 | t :: r,vs,k,a=>by rw [putM,putM_defers r,putN_defers]
theorem putM_other:∀ (ds:List (Option Tmp)) (vs:Nat→Value) (k:Nat) (a:Act) (t:Tmp),some t ∉ ds→(putM ds vs k a).tmps[t]?=a.tmps[t]?
 | [],_,_,_,_,_=>rfl
 | s :: r,vs,k,a,t,h=>by
   simp only [List.mem_cons,not_or] at h
   rw [putM,putM_other r vs (k+1) _ t h.2,putN_get,if_neg (fun e=>h.1 e.symm)]
theorem all_upB {md:Region.Mode} {ops:Array Oper} (hord:((List.range ops.size).all fun j=>((ops[j]?).map (fun o=>o.after.all fun e=>!(Region.binds md e) || decide (e.on<j))).getD true)=true) (l:Array Bool) (hr:Region.ready md ops l=[]) (hl:l.size=ops.size):∀ j,j<ops.size→l.getD j false=true:=by
 intro j
 induction j using Nat.strongRecOn with
 | ind j ih =>
   intro hj
   cases hv:l.getD j false with
   | true=>rfl
   | false =>
     exfalso
     have hlt:j<l.size:=by omega
     have h0:l.getD j true=false:=by
      simp [hlt] at hv ⊢
      exact hv
     have ho:ops[j]?=some ops[j]:=Array.getElem?_eq_getElem hj
     have hm:j ∈ Region.ready md ops l:=mem_ready.2 ⟨h0,_,ho,fun e he hb=>by
      have h1:=List.all_eq_true.1 hord j (List.mem_range.2 hj)
      rw [ho] at h1
      simp only [Option.map_some,Option.getD_some] at h1
      have h2:=Array.all_eq_true_iff_forall_mem.1 h1 e he
      have h3:e.on<j:=by simpa [hb] using h2
      exact ih e.on h3 (by omega)⟩
     rw [hr] at hm
     cases hm
def onceM:List (Option Tmp)→Bool
 | []=>true
 | none :: r=>onceM r
 | some t :: r=>!(r.contains (some t))&&onceM r
theorem onceM_at:∀ (ds:List (Option Tmp)),onceM ds=true→∀ i j (hi:i<ds.length) (hj:j<ds.length) t,ds[i]=some t→ds[j]=some t→i=j
 | [],_,_,_,hi,_,_,_,_=>by simp at hi
 | x :: r,h,i,j,hi,hj,t,h1,h2=>by
   have hr:onceM r=true:=by cases x<;>simp [onceM] at h;exact h;exact h.2
   have hx:∀ k (hk:k<r.length),x=some t→r[k]=some t→False:=fun k hk e1 e2=>by
    subst e1
    simp only [onceM,Bool.and_eq_true,Bool.not_eq_true',List.contains_eq_mem,decide_eq_false_iff_not] at h
    exact h.1 (e2 ▸ List.getElem_mem hk)
   cases i with
   | zero=>cases j with
     | zero=>rfl
     | succ j=>exact (hx j (by simpa using hj) h1 h2).elim
   | succ i=>cases j with
     | zero=>exact (hx i (by simpa using hi) h2 h1).elim
     | succ j=>rw [onceM_at r hr i j (by simpa using hi) (by simpa using hj) t h1 h2]
theorem putM_at:∀ (ds:List (Option Tmp)) (vs:Nat→Value) (k:Nat) (a:Act) (j:Nat) (hj:j<ds.length) (t:Tmp),onceM ds=true→ds[j]=some t→t<a.tmps.size→(putM ds vs k a).tmps[t]?=some (vs (k+j))
 | [],_,_,_,_,hj,_,_,_,_=>by simp at hj
 | s :: r,vs,k,a,0,_,t,hn,he,hs=>by
   simp only [List.getElem_cons_zero] at he
   subst he
   simp only [onceM,Bool.and_eq_true,Bool.not_eq_true',List.contains_eq_mem,decide_eq_false_iff_not] at hn
   rw [putM,putM_other r vs (k+1) _ t hn.1,putN_get,if_pos rfl,if_pos hs]
   rfl
 | s :: r,vs,k,a,j+1,hj,t,hn,he,hs=>by
   simp only [List.getElem_cons_succ] at he
   have hr:onceM r=true:=by cases s<;>simp [onceM] at hn;exact hn;exact hn.2
   rw [putM,putM_at r vs (k+1) _ j (by simpa using hj) t hr he (by rw [putN_size];exact hs),show k+1+j=k+(j+1) by omega]
theorem wpAny_mem {P:Program} {ops:Array Oper} {Q:Exit→Act→World→Prop} {md:Region.Mode} {a:Act} {w:World} (ds:List (Option Tmp)) (vs:Value→Nat→Value) (J:Array Bool→Value→World→Prop) (ia:Nat) (R0:Value) (hn:ops.size=ds.length) (hvs:∀ R R' j,j≠ia→vs R j=vs R' j)
    (hord:((List.range ops.size).all fun j=>((ops[j]?).map (fun o=>o.after.all fun e=>!(Region.binds md e) || decide (e.on<j))).getD true)=true) (hnd:onceM ds=true) (hsz:(ds.all fun t=>match t with | some t=>decide (t<a.tmps.size) | none=>true)=true)
    (hstep:∀ i o,ops[i]?=some o→i<ds.length→∀ (l:Array Bool) (R:Value) (aa:Act),l.size=ops.size→l.getD i true=false→(∀ e ∈ o.after,Region.binds md e=true→l.getD e.on false=true)→(∀ e ∈ o.after,Region.binds md e=true→∀ t,ds.getD e.on none=some t→aa.tmps[t]?=some (vs R e.on))→(∀ t,some t ∉ ds→aa.tmps[t]?=a.tmps[t]?)→∀ w',J l R w'→wpOp P ops Q i (fun a2 w2=>∃ R',(i≠ia→R'=R)∧a2=aa.put (ds.getD i none) (vs R' i)∧J (l.setIfInBounds i true) R' w2) aa w')
    (hend:∀ l R w',(∀ j,j<ops.size→l.getD j false=true)→J l R w'→Q .normal (putM ds (vs R) 0 a) w') (hJ:J (Array.replicate ops.size false) R0 w):wpAny P md ops Q ops.size (Array.replicate ops.size false) a w:=by
 have hsz2:∀ j (hj:j<ds.length) t,ds[j]=some t→t<a.tmps.size:=fun j hj t ht=>by
  have:=List.all_eq_true.1 hsz _ (List.getElem_mem hj)
  rw [ht] at this
  simpa using this
 have hgd:∀ j (hj:j<ds.length),ds.getD j none=ds[j]:=fun j hj=>by rw [List.getD_eq_getElem?_getD,List.getElem?_eq_getElem hj,Option.getD_some]
 have hon:∀ (i:Nat) (o:Oper),ops[i]?=some o→∀ e ∈ o.after,Region.binds md e=true→e.on<i:=fun i o ho e he hb=>by
  have h1:=List.all_eq_true.1 hord i (List.mem_range.2 (Array.getElem?_eq_some_iff.1 ho).1)
  rw [ho] at h1
  simp only [Option.map_some,Option.getD_some] at h1
  have h2:=Array.all_eq_true_iff_forall_mem.1 h1 e he
  simpa [hb] using h2
 refine wpAny_iv (fun l a' w'=>∃ R,l.size=ops.size∧((∀ j,j<ds.length→l.getD j false=true→∀ t,ds.getD j none=some t→a'.tmps[t]?=some (vs R j))∧(∀ t,some t ∉ ds→a'.tmps[t]?=a.tmps[t]?)∧a'.tmps.size=a.tmps.size∧a'.defers=a.defers)∧J l R w') ?_ ?_ _ _ _ _ ?_ ?_
 · rintro l a' w' ⟨R,hl,⟨hv,ho',hs,hd⟩,hJ⟩ i o ho h0 hall
   have hil:i<ds.length:=by
    have:=(Array.getElem?_eq_some_iff.1 ho).1
    omega
   have hvv:∀ e ∈ o.after,Region.binds md e=true→∀ t,ds.getD e.on none=some t→a'.tmps[t]?=some (vs R e.on):=fun e he hb=>hv _ (by have:=hon i o ho e he hb;omega) (hall e he hb)
   refine wpOp_mono ?_ (hstep i o ho hil l R a' hl h0 hall hvv ho' w' hJ)
   rintro a2 w2 ⟨R',hR,rfl,hJ2⟩
   refine ⟨R',by simp [hl],⟨fun j hjl hj t ht=>?_,fun t ht=>?_,by rw [putN_size];exact hs,by rw [putN_defers];exact hd⟩,hJ2⟩
   · rw [putN_get,hgd i hil]
     by_cases h:j=i
     · subst h
       rw [hgd j hjl] at ht
       rw [if_pos ht,if_pos (by rw [hs];exact hsz2 j hjl t ht)]
     · rw [getD_set_ne false (fun e=>h e.symm)] at hj
       have ht2:=ht
       rw [hgd j hjl] at ht2
       rw [if_neg (fun e=>h (onceM_at ds hnd j i hjl hil t ht2 e)),hv j hjl hj t ht]
       by_cases hia:i=ia
       · rw [hvs R R' j (fun e=>h (e.trans hia.symm))]
       · rw [hR hia]
   · rw [putN_get,hgd i hil,if_neg (fun (e:ds[i]=some t)=>ht (e ▸ List.getElem_mem hil))]
     exact ho' t ht
 · rintro l a' w' ⟨R,hl,⟨hv,ho',hs,hd⟩,hJ⟩ hr
   have hu:=all_upB hord l hr hl
   have e:a'=putM ds (vs R) 0 a:=by
    have e1:a'.tmps=(putM ds (vs R) 0 a).tmps:=by
     apply Array.ext_getElem?
     intro t
     by_cases ht:some t ∈ ds
     · obtain ⟨j,hj,he⟩:=List.mem_iff_getElem.1 ht
       rw [putM_at ds _ 0 a j hj t hnd he (hsz2 j hj t he),Nat.zero_add]
       exact hv j hj (hu j (by omega)) t (by rw [hgd j hj];exact he)
     · rw [putM_other ds _ 0 a t ht]
       exact ho' t ht
    have e2:a'.defers=(putM ds (vs R) 0 a).defers:=by rw [putM_defers];exact hd
    cases a'
    cases hq:putM ds (vs R) 0 a
    rw [hq] at e1 e2
    simp only at e1 e2
    rw [e1,e2]
   rw [e]
   exact hend l R w' hu hJ
 · simp
 · refine ⟨R0,by simp,⟨fun j hjl hj=>?_,fun _ _=>rfl,rfl,rfl⟩,hJ⟩
   rw [Array.getD_eq_getD_getElem?,Array.getElem?_replicate] at hj
   split at hj<;>cases hj
end Go.Proofs.YtmohmggnjldddaaGreatDoor
