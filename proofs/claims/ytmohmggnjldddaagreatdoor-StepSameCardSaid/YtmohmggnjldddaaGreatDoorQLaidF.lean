/-
  The package-level variables that the rows of graphs' laws list: proved is that a world in which they read as listed holds the table of kinds and the table of fields, and that such a world is there.
-/
import Derived.Test.YtmohmggnjldddaaGreatDoorRows
import Derived.ChangeReads
import Derived.ChangeOld
import Derived.RowKit
import Derived.Below
import Derived.ProofKit
import Derived.OpenShut
import Derived.KernelRfl
import Derived.Test.YtmohmggnjldddaaGreatDoorQUsesC
import Derived.WideShapes
import Derived.Test.YtmohmggnjldddaaGreatDoorQOnO
import Derived.Test.YtmohmggnjldddaaGreatDoorCards
import Derived.Test.YtmohmggnjldddaaGreatDoorTie
import Derived.Test.YtmohmggnjldddaaGreatDoorQCfgD
import Derived.Test.YtmohmggnjldddaaGreatDoorQGrE
import Derived.Deep.DeepHandedRow
import Derived.Deep.DeepWitnessRowRef
import Derived.LaidMore
import Derived.Stop.LaidErr
import Derived.Lib.LaidTab
import Derived.Test.YtmohmggnjldddaaGreatDoorQAbb
namespace Go.Proofs.YtmohmggnjldddaaGreatDoor
set_option maxRecDepth 100000
open Go Go.RowKit Go.ChangeShapes
def GoodT (P:Program) (G:TypeId→Prop) (t:TypeId):Prop:=match P.underlying t with
 | some .bool=>True
 | some (.int _)=>True
 | some .string=>True
 | some (.slice e)=>G e∧0<P.cellsOf e
 | some (.struct fs)=>∀ f ∈ fs.toList,G f.type
 | _=>False
def PlainAll (P:Program) (G:TypeId→Prop):Prop:=∀ t,G t→GoodT P G t
section
variable {H:Type} {enc:TypeId × Value→H} {P:Program} {G:TypeId→Prop} {w:World} {base:Nat} {held:Bool}
theorem trodStep_spareT (hp:PlainAll P G) {sp:Nat→Bool} {r r':TypeId→List Value→Option (DataW H × List MemPlace)}
    (hr:∀ t,G t→∀ cs x,r t cs=some x→(∀ p ∈ x.2,sp p.block=true)→r' t cs=some x) {t:TypeId} (ht:G t) {cs:List Value} {x:DataW H × List MemPlace}
    (h:DataW.trodStep enc P w base (fun _=>true) held r t cs=some x) (hs:∀ p ∈ x.2,sp p.block=true):DataW.trodStep enc P w base sp held r' t cs=some x:=by
 have hg:=hp t ht
 unfold GoodT at hg
 unfold DataW.trodStep at h ⊢
 split at h
 case h_1=>exact h
 case h_2=>exact h
 case h_3=>exact h
 case h_4=>exact h
 case h_5=>exact h
 case h_6 e a hu =>
  rw [hu] at hg
  exact hg.elim
 case h_7=>exact h
 case h_8 e a len cap hu =>
  rw [hu] at hg
  obtain ⟨hge,hpos⟩:=hg
  simp only at h ⊢
  split at h
  · rename_i hc
    rw [if_pos hc]
    simp only [Option.map_eq_some_iff,Option.bind_eq_some_iff] at h ⊢
    obtain ⟨elems,he,rest,hrest,rfl⟩:=h
    have hlen:elems.length=len:=by simpa using mapM_some_length he
    simp only [if_true] at hrest
    have hrl:rest.length=cap - len:=by simpa using mapM_some_length hrest
    have one:∀ (i:Nat) (y:DataW H × List MemPlace),y ∈ elems++rest →
        (w.cells? base (a.add (i * P.cellsOf e)) (P.cellsOf e)).bind (r e)=some y→(w.cells? base (a.add (i * P.cellsOf e)) (P.cellsOf e)).bind (r' e)=some y:=by
     intro i y hy hv
     simp only [Option.bind_eq_some_iff] at hv ⊢
     obtain ⟨cs',hc',hy'⟩:=hv
     refine ⟨cs',hc',hr _ hge _ _ hy' (fun p hp=>hs p ?_)⟩
     simp only [List.mem_append,List.mem_flatMap]
     right
     exact ⟨y,by simpa using hy,hp⟩
    refine ⟨elems,mapM_carry he (fun i y _ hy=>one i y (by simp [hy])),rest,?_,rfl⟩
    by_cases hz:cap - len=0
    · have hr0:rest=[]:=List.eq_nil_of_length_eq_zero (by omega)
      subst hr0
      rw [hz]
      split<;>rfl
    · have hb:sp a.block=true:=by
       refine hs (.cell a.block a.off) ?_
       simp only [List.mem_append]
       left
       refine MemPlace.mem_row.2 ⟨0,?_,by simp⟩
       rw [hlen,hrl]
       exact Nat.mul_pos (by omega) hpos
      rw [if_pos hb]
      exact mapM_carry hrest (fun j y _ hy=>one (len+j) y (by simp [hy]))
  · cases h
 case h_9 hu =>
  rw [hu] at hg
  split at h
  · rename_i hc
    rw [if_pos hc]
    simp only [Option.map_eq_some_iff] at h ⊢
    obtain ⟨xs,hx,rfl⟩:=h
    exact ⟨xs,mapM_carry hx (fun f y hm hy hv=>hr _ (hg f hm) _ _ hv (fun p hp=>hs p (List.mem_flatMap.2 ⟨y,hy,hp⟩))),rfl⟩
  · cases h
 case h_10 hu =>
  rw [hu] at hg
  exact hg.elim
 case h_11=>exact h
 case h_12 hu =>
  rw [hu] at hg
  exact hg.elim
 case h_13=>exact h
 case h_14 k e b hu =>
  rw [hu] at hg
  exact hg.elim
 case h_15=>exact h
 case h_16=>exact h
 case h_17=>exact h
 case h_18=>exact h
 case h_19=>exact h
 case h_20=>exact h
 case h_21=>cases h
theorem trod_spareT (hp:PlainAll P G) {sp:Nat→Bool}:∀ (n:Nat) (t:TypeId),G t→∀ (cs:List Value) (x:DataW H × List MemPlace),
    DataW.trod enc P w base (fun _=>true) held n t cs=some x→(∀ p ∈ x.2,sp p.block=true)→DataW.trod enc P w base sp held n t cs=some x
 | 0,_,_,_,_,h,_=>by simp [DataW.trod] at h
 | n+1,t,ht,cs,x,h,hs=>by
   rw [DataW.trod_step] at h ⊢
   exact trodStep_spareT hp (trod_spareT hp n) ht h hs
theorem trodAll_againT {w':World} (hp:PlainAll P G) (hb:Below w.heap.size w w'):∀ {ts:List TypeId} {vs:List Value} {ds:List (DataW H)} {ps:List MemPlace},(∀ t ∈ ts,G t)→DataW.TrodAll enc P w base (fun _=>true) held ts vs ds ps →
    DataW.TrodAll enc P w' base (fun b=>decide (b<w.heap.size)) held ts vs ds ps
 | [],[],[],ps,_,h=>h
 | t :: ts,v :: vs,d :: ds,ps,hG,h=>by
   obtain ⟨p,q,⟨fuel,h1⟩,h2,h3⟩:=h
   have hlt:=DataW.trod_lt _ _ _ _ h1
   have h4:=trod_spareT (sp:=fun b=>decide (b<w.heap.size)) hp _ _ (hG t (List.mem_cons_self ..)) _ _ h1 (fun p hp=>by simpa using hlt p hp)
   exact ⟨p,q,⟨fuel,DataW.trod_carry _ _ _ _ h4 (fun p hp=>hb.same (hlt p hp))⟩,trodAll_againT hp hb (fun u hu=>hG u (List.mem_cons_of_mem _ hu)) h2,h3⟩
 | [],[],_ :: _,ps,_,h=>h.elim
 | [],_ :: _,_,ps,_,h=>h.elim
 | _ :: _,[],_,ps,_,h=>h.elim
 | _ :: _,_ :: _,[],ps,_,h=>h.elim
theorem post_trueT {f:Func} {s:ChangeSpec} {W W':World} {args:Array Value} {ds gs:List (DataW H)} {before:List MemPlace} {tb:TypeId} (hp:PlainAll P G) (hG:∀ t ∈ f.params.toList,G t) (hv:s.vars=[]) (hr:f.resultTypes.toList=[tb]) (hrs:f.resultTypes.size=1) (htb:P.underlying tb=some .bool)
    (hfn:s.fn H (ds++gs)={ results:=[.lit (.bool true)],args:=ds }) (hW:DataW.Whole enc P f.params.toList s.vars false W args.toList ds gs before) (hb:Below W.heap.size W W'):s.post enc P f false true false false W args (.bool true) W':=by
 have hW':=hW
 obtain ⟨p,q,hA,hV,rfl,hfz,hnd⟩:=hW
 refine ⟨ds,gs,_,[],p,q,hW',?_,?_,?_,hb.frame _,fun h=>by cases h⟩
 · rw [hr,hrs,hfn]
   exact trodAll_mk1 (shut_bool htb true)
 · rw [hfn]
   exact trodAll_againT hp hb hG hA
 · rw [hv] at hV ⊢
   rw [hfn]
   cases gs with
   | nil=>exact hV
   | cons g r=>exact hV.elim
end
open Go Go.RowKit Go.ChangeShapes Go.WideShapes
section
variable {H:Type} {enc:TypeId × Value→H} {W:World} {base b0:Nat} {sp:Nat→Bool} {held:Bool} {r:Reach}
theorem arg_prog {v:Value} {d:DataW H} {p:List MemPlace} (hval:Value.okWide Tryz.prog W r b0 25 v) (h:DataW.Trod enc Tryz.prog W base sp held 25 v d p):∃ (ds ss:List Nd) (v0 v1:Value),v=.agg #[v0,v1]∧SlIn W .D ds v0∧SlIn W .S ss v1:=by
 obtain ⟨cs,rfl,_⟩:=okWide_struct Tryz.underlying25 hval
 obtain ⟨fuel,hf⟩:=h
 obtain ⟨xs,n,rfl,_,hl,hxs,hff⟩:=DataW.trod_struct Tryz.underlying25 hf
 have hl2:cs.toList.length=2:=hl.trans (by kernel_rfl)
 obtain ⟨c0,c1,hcs⟩:=len2 hl2
 simp only [Value.cells] at hff
 rw [hcs] at hff
 obtain ⟨y0,y1,rfl⟩:=len2 (hxs.trans (by rfl))
 obtain ⟨ds,hds⟩:=open_list (ty:=.D) (one_cell (c:=c0) (by kernel_rfl) rfl rfl (hff 0 _ rfl))
 obtain ⟨ss,hss⟩:=open_list (ty:=.S) (one_cell (c:=c1) (by kernel_rfl) rfl rfl (hff 1 _ rfl))
 exact ⟨ds,ss,c0,c1,congrArg Value.agg (Array.ext' hcs),hds,hss⟩
end
def treeT:List TypeId:=[25,142,150,57,104,54,55,23,22,3,2,9,4]
open Go Go.RowKit Go.ChangeShapes Go.WideShapes Go.Deep
section
variable {H:Type} {enc:TypeId × Value→H} {W:World} {base:Nat} {sp:Nat→Bool} {held:Bool} {r:Reach} {b0:Nat}
theorem arg_ints {v:Value} {d:DataW H} {p:List MemPlace} (hval:Value.okWide Tryz.prog W r b0 42 v) (h:DataW.Trod enc Tryz.prog W base sp held 42 v d p):∃ l,IntsAt W W.heap.size l v∧∀ x ∈ l,fitsI x:=by
 obtain ⟨va,vl,vc,rfl⟩:=okWide_slice Tryz.underlying42 hval
 obtain ⟨fuel,h⟩:=h
 change DataW.trod enc Tryz.prog W base sp held fuel _ [.slice va vl vc]=_ at h
 rcases DataW.trod_slice Tryz.underlying42 h with ⟨h1,_⟩ | ⟨a,len,cap,elems,rest,n,hf,h1,_,hb,hl,hc,hlen,hel,_⟩
 · obtain ⟨rfl,rfl,rfl⟩:va=none∧vl=0∧vc=0:=by simpa using h1
   exact ⟨[],⟨none,0,rfl,Nat.le_refl _,Nat.zero_le _,.inl rfl⟩,fun x hx=>by cases hx⟩
 · obtain ⟨rfl,rfl,rfl⟩:va=some a∧vl=len∧vc=cap:=by simpa using h1
   have hone:Tryz.prog.cellsOf 2=1:=by kernel_rfl
   rw [hone] at hel
   have hex:∀ i,i<vl→∃ x:Int,W.cells? base (a.add (i * 1)) 1=some [.int .i64 x]∧fitsI x:=fun i hi=>by
    have:=hel i hi
    rw [List.getElem?_eq_getElem (by omega)] at this
    simp only [Option.bind_eq_some_iff] at this
    obtain ⟨cs,hcs,hy⟩:=this
    obtain ⟨x,hx,-,hw⟩:=DataW.trod_int Tryz.underlying2 hy
    subst hx
    exact ⟨x,hcs,fits_wf hw⟩
   obtain ⟨f,hfn⟩:=choose_lt hex
   refine ⟨(List.range vl).map f,⟨some a,vc,by simp,by simpa using hl,hc,?_⟩,?_⟩
   · by_cases h0:vl=0
     · exact .inl (by simpa using h0)
     · right
       have hat:∀ i,i<vl→W.cell? (a.add i)=some (.int .i64 (f i)):=fun i hi=>by
        obtain ⟨hcs,_⟩:=hfn i hi
        rw [Nat.mul_one] at hcs
        obtain ⟨_,_,hat⟩:=World.cells?_some hcs
        have h2:=hat 0 (by decide)
        simpa [Addr.add] using h2
       have hsp:a=⟨a.block,a.off,none⟩:=by
        have h2:=hat 0 (by omega)
        simp only [Addr.add] at h2
        exact spot_none h2
       have hc0:∀ i,i<vl→W.cell? ⟨a.block,a.off+i,none⟩=some (.int .i64 (f i)):=fun i hi=>by
        have h2:=hat i hi
        rw [hsp,add_none] at h2
        exact h2
       refine ⟨a.block,a.off,by rw [← hsp],World.block_lt_of_cell? W ⟨a.block,a.off+0,none⟩ (hc0 0 (by omega)),fun i hi=>?_⟩
       simp only [List.length_map,List.length_range] at hi
       rw [hc0 i hi]
       simp
   · intro x hx
     obtain ⟨i,hi,rfl⟩:=List.mem_map.1 hx
     exact (hfn i (List.mem_range.1 hi)).2
end
def treeTI:List TypeId:=42 :: treeT
theorem plainAllI:PlainAll Tryz.prog (fun t=>t ∈ treeTI):=by
 have h:(treeTI.all fun t=>match Tryz.prog.underlying t with
  | some .bool=>true
  | some (.int _)=>true
  | some .string=>true
  | some (.slice e)=>treeTI.contains e&&decide (0<Tryz.prog.cellsOf e)
  | some (.struct fs)=>fs.toList.all fun f=>treeTI.contains f.type
  | _=>false)=true:=by kernel_rfl
 intro t ht
 have h2:=List.all_eq_true.1 h t ht
 unfold GoodT
 clear h
 split at h2
 case h_5 fs heq =>
  try rw [heq]
  intro f hf
  have:=List.all_eq_true.1 h2 f hf
  simpa using this
 all_goals simp_all
open Go Go.Shelf Go.ChangeShapes Go.WideShapes Go.ChangeAt Go.RowKit Go.Lib
theorem own:ownKnob Tryz.prog.godebug=none:=by kernel_rfl
def listed : List (String × DataW Unit) := [("gnomon/cfg.fieldsOf", Rows.laid_gnomon_cfg_fieldsOf), ("gnomon/cfg.kinds", Rows.laid_gnomon_cfg_kinds)]
def kindsT:List Int:=[0,0,0,9,10,3,4,5,6,7,8]
theorem kinds_eq:(Rows.laid_gnomon_cfg_kinds:DataW Unit)=Lib.tabData .i64 kindsT:=by kernel_rfl
theorem kinds_at:∀ i,i<11→kindsT.getD i 0=tabK i:=by decide
def rowB (k:Int):List Bool:=[kDst k,kArr k,kOp k,kA k,kB k]
def fieldsT:List (List Bool):=(List.range 15).map fun (k:Nat)=>rowB (k:Int)
def boolData {H:Type} (T:List (List Bool)):DataW H:=.agg (T.map fun r=>.agg (r.map fun b=>.lit (.bool b)))
theorem fields_eq:(Rows.laid_gnomon_cfg_fieldsOf:DataW Unit)=boolData fieldsT:=by kernel_rfl
section
variable {H:Type} {enc:TypeId × Value→H} {P:Program} {w:World} {base:Nat} {sp:Nat→Bool} {held:Bool} {fuel n:Nat} {t e:TypeId} {fs:Array Field}
theorem cells_of_bools {cs:List Value} {T:List (List Bool)} {p:List MemPlace} (ht:P.underlying t=some (.array n e)) (he:P.underlying e=some (.struct fs)) (hce:P.cellsOf e=5)
    (hfs:∀ j,j<5→∃ f,fs[j]?=some f∧P.underlying f.type=some .bool∧f.offset=j∧P.cellsOf f.type=1)
    (h:DataW.trod enc P w base sp held fuel t cs=some (boolData T,p)) (i j:Nat) (r:List Bool) (b:Bool) (hi:T[i]?=some r) (hj:r[j]?=some b) (hj5:j<5):cs[i * 5+j]?=some (.bool b):=by
 obtain ⟨xs,m,-,hx,-,hxn,hat⟩:=DataW.trod_array ht h
 have hxs:xs.map (·.1)=T.map fun r=>(DataW.agg (r.map fun b=>.lit (.bool b)):DataW H):=by
  have:=congrArg Prod.fst hx
  simp only [boolData,DataW.agg.injEq] at this
  exact this.symm
 have hil:i<T.length:=(List.getElem?_eq_some_iff.1 hi).1
 have hlen:xs.length=T.length:=by simpa using congrArg List.length hxs
 have hin:i<n:=by omega
 have h1:(xs.map (·.1))[i]?=some (DataW.agg (r.map fun b=>.lit (.bool b)):DataW H):=by rw [hxs];simp [hi]
 rw [List.getElem?_map,Option.map_eq_some_iff] at h1
 obtain ⟨x,hxi,hx1⟩:=h1
 have h2:=hat i hin
 rw [hxi,hce] at h2
 obtain ⟨ys,m2,-,hy,-,-,hfld⟩:=DataW.trod_struct he h2
 rw [hy] at hx1
 have hys:ys.map (·.1)=r.map fun b=>(DataW.lit (.bool b):DataW H):=by
  simp only [DataW.agg.injEq] at hx1
  exact hx1
 obtain ⟨f,hf,hfb,hfo,hfc⟩:=hfs j hj5
 have h3:=hfld j f hf
 rw [hfo,hfc] at h3
 have h4:(ys.map (·.1))[j]?=some (DataW.lit (.bool b):DataW H):=by rw [hys];simp [hj]
 rw [List.getElem?_map,Option.map_eq_some_iff] at h4
 obtain ⟨y,hyj,hy1⟩:=h4
 rw [hyj] at h3
 obtain ⟨b',hc,hb'⟩:=DataW.trod_bool hfb h3
 rw [hb'] at hy1
 simp only [DataW.lit.injEq,Lit.bool.injEq] at hy1
 subst hy1
 have h5:=congrArg (·[0]?) hc
 simp only [List.getElem?_cons_zero] at h5
 rw [List.getElem?_take_of_lt (by omega),List.getElem?_drop,Nat.add_zero,List.getElem?_take_of_lt hj5,List.getElem?_drop] at h5
 exact h5
end
theorem fields_at:∀ k:Nat,k<15→fieldsT[k]?=some (rowB (k:Int)):=by
 intro k hk
 simp [fieldsT,hk]
theorem fields_of {W:World} (h:laidMetH Tryz.prog listed W):TabF W:=by
 rw [MakeChecks.laidMetH_plain _ _ _ (by kernel_rfl)] at h
 unfold listed at h
 rw [fields_eq] at h
 obtain ⟨ps,⟨g',t',cs,fuel,p,q,hg',ht',hvar,hd,_,_⟩,_⟩:=h
 obtain rfl := Option.some.inj ((show Tryz.prog.globalNamed "gnomon/cfg.fieldsOf" = some 0 by kernel_rfl).symm.trans hg')
 obtain rfl:=Option.some.inj ((show (Tryz.prog.globals[(0:Nat)]?).map (·.type)=some 192 by kernel_rfl).symm.trans ht')
 have hc:=fun i j r b=>cells_of_bools Tryz.underlying192 Tryz.underlying191 (by kernel_rfl) (fun j hj=>by
  have:j=0∨j=1∨j=2∨j=3∨j=4:=by omega
  rcases this with rfl | rfl | rfl | rfl | rfl<;>exact ⟨_,rfl,by kernel_rfl,rfl,by kernel_rfl⟩) hd i j r b
 intro k _ hk
 have hk2:=fields_at k (by omega)
 have hcell := fun j => World.var?_cell (P := Tryz.prog) (show Tryz.prog.globalNamed "gnomon/cfg.fieldsOf" = some 0 by kernel_rfl) hvar (k * 5 + j)
 refine ⟨(hcell 0).trans ?_,(hcell 1).trans ?_,(hcell 2).trans ?_,(hcell 3).trans ?_,(hcell 4).trans ?_⟩
 · simpa using hc k 0 _ _ hk2 rfl (by omega)
 · simpa using hc k 1 _ _ hk2 rfl (by omega)
 · simpa using hc k 2 _ _ hk2 rfl (by omega)
 · simpa using hc k 3 _ _ hk2 rfl (by omega)
 · simpa using hc k 4 _ _ hk2 rfl (by omega)
theorem tab_of {W:World} (h:laidMetH Tryz.prog listed W):TabK W:=by
 rw [MakeChecks.laidMetH_plain _ _ _ (by kernel_rfl)] at h
 have h:=laidMet.tail h
 rw [kinds_eq] at h
 have h2 : Lib.TabIs Tryz.prog W "gnomon/cfg.kinds" .i64 kindsT := Lib.tabIs_of_head (g := 1) (t := 252) (e := 3) (n := 11) (by kernel_rfl) (by kernel_rfl) (by kernel_rfl) (by kernel_rfl) (by kernel_rfl) (by kernel_rfl) h
 intro i hi
 have h3:=h2.cell (g:=1) (by kernel_rfl) i hi
 rw [kinds_at i hi] at h3
 exact h3
def litsOf {H:Type}:DataW H→List Value
 | .agg l=>l.map fun
   | .lit (.int k z)=>.int k z
   | _=>undef
 | _=>[]
noncomputable def laidWorld (os:Os):World :=
 let w0:=World.holding Tryz.prog os ⟨#[],#[],[]⟩
 let put (h:Array Obj) (g:Nat) (cs:Array Value):Array Obj:=h.modify g fun
  | .cells _ t frozen=>.cells cs t frozen
  | o=>o
 let h1:=put w0.heap 1 (litsOf (Rows.laid_gnomon_cfg_kinds:DataW Unit)).toArray
 let h2:=put h1 0 (fieldsT.flatten.map Value.bool).toArray
 { w0 with heap:=h2 }
theorem laid_met (os:Os) (args:Array Value):laidMet Tryz.prog listed ((laidWorld os).forCall (fun _ _=>0) ⟨#[],args,[]⟩).memory :=
 laidMet_of_run' 8 (by kernel_rfl) (by kernel_rfl)
end Go.Proofs.YtmohmggnjldddaaGreatDoor
