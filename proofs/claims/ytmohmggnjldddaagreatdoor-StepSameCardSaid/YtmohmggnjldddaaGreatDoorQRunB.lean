/-
  The machine's item, note and input: proved is what each comes to.
-/
import Derived.Test.YtmohmggnjldddaaGreatDoorQLook
import Derived.WalkLawsBesides
import Derived.Deep.RegionWith
import Derived.Deep.RegionLaw
import Derived.Deep.AppendLies
import Derived.Deep.DeepCutAuto
import Derived.Deep.CutBlock
namespace Go.Proofs.YtmohmggnjldddaaGreatDoor
open Go Go.RowKit Go.Maps
structure Me where
 E:Rv
 M:Nat
 G:Nat
 gn:Nat
 D:DataW Unit
 vb:Nat
 nv:Nat
 va:Value
 ar:Nat
 ab:List (Nat × Nat)
 H0:Nat
 B1:Nat
def evV (x:Bool × Int × Bool):List Value:=[.bool x.1,.int .i64 x.2.1,.bool x.2.2]
def cellsV (l:List (Bool × Int × Bool)):List Value:=l.flatMap evV
theorem cellsV_snoc (l:List (Bool × Int × Bool)) (x:Bool × Int × Bool):cellsV (l ++ [x])=cellsV l ++ evV x:=by simp [cellsV]
def intsV (l:List Int):Array Value:=(l.map (fun x=>Value.int .i64 x)).toArray
theorem intsV_at (l:List Int) (i:Nat) (h:i < l.length):(intsV l)[i]?=some (.int .i64 (l.getD i 0)):=by
 simp [intsV,List.getD_eq_getElem?_getD,h]
theorem intsV_set (l:List Int) (i:Nat) (v:Int):(intsV l).setIfInBounds i (.int .i64 v)=intsV (l.set i v):=by
 apply Array.toList_inj.1
 simp [intsV,List.map_set]
def rowV (x:Nat × Nat):Value:=.slice (some ⟨x.1,0,none⟩) x.2 x.2
structure Me.ok (K:Me):Prop where
 most:K.E.most≤65536
 look:∀ nm,K.D.atKey (keyS nm) (.lit (.int .i64 0))=.lit (.int .i64 (K.E.pl nm))
 m0:K.H0≤K.M
 v0:K.H0≤K.vb
 a0:∀ x ∈ K.ab,K.H0≤x.1
 b0:K.H0≤K.B1
 m1:K.M < K.B1
 g1:K.G < K.B1
 v1:K.vb < K.B1
 r1:K.ar < K.B1
 a1:∀ x ∈ K.ab,x.1 < K.B1
 mg:K.M ≠ K.G
 mv:K.M ≠ K.vb
 mr:K.M ≠ K.ar
 ma:∀ x ∈ K.ab,K.M ≠ x.1
 vg:K.vb ≠ K.G
 vr:K.vb ≠ K.ar
 va':∀ x ∈ K.ab,K.vb ≠ x.1
 ag:∀ x ∈ K.ab,x.1 ≠ K.G
 ra:∀ x ∈ K.ab,x.1 ≠ K.ar
 aa:(K.ab.map (·.1)).Nodup
 few:K.ab.length≤maxLen
 az:∀ x ∈ K.ab,x.2≤1024
 nz:K.nv≤1024
 rows:∃ a c,K.va=.slice a K.ab.length c∧K.ab.length≤c∧c≤maxLen∧(K.ab.length=0 ∨ a=some ⟨K.ar,0,none⟩)
def IntsAt (w:World) (H0:Nat) (l:List Int) (v:Value):Prop:=∃ a c,v=.slice a l.length c∧l.length≤c∧c≤maxLen∧(l.length=0 ∨ ∃ b o,a=some ⟨b,o,none⟩∧b < H0∧∀ i (h:i < l.length),w.cell? ⟨b,o+i,none⟩=some (.int .i64 l[i]))
theorem IntsAt.below {w w':World} {H0:Nat} {l:List Int} {v:Value} (h:IntsAt w H0 l v) (hb:Below H0 w w'):IntsAt w' H0 l v:=by
 obtain ⟨a,c,h1,h2,h3,h4⟩:=h
 refine ⟨a,c,h1,h2,h3,h4.imp id ?_⟩
 rintro ⟨b,o,h5,h6,h7⟩
 exact ⟨b,o,h5,h6,fun i hi=>(hb.cell (p:=⟨b,o+i,none⟩) h6).trans (h7 i hi)⟩
def machV (K:Me) (st wr:Int) (s:Rn) (sv ve:Value):Array Value:=#[.map (some K.G),sv,.int .i64 K.E.most,.int .i64 st,.int .i64 wr,.int .i64 s.steps,ve,.slice (some ⟨K.vb,0,none⟩) K.nv K.nv,K.va]
structure Mc (K:Me) (w:World) (s:Rn) (sv ve:Value):Prop where
 mach:Blk w K.M (machV K 0 0 s sv ve) 84
 evs:w.ownsRow K.B1 100 3 ve s.evs.length (cellsV s.evs)
 left:IntsAt w K.H0 s.left sv
 map:OwnM w K.G K.gn K.D
 vars:Blk w K.vb (intsV s.vars) 2
 rows:∀ i (h:i < K.ab.length),w.cell? ⟨K.ar,i,none⟩=some (rowV K.ab[i])
 arrs:∀ i (h:i < K.ab.length),Blk w K.ab[i].1 (intsV (s.arrs.getD i [])) 2
 size:K.B1≤w.heap.size
 nv:s.vars.length=K.nv
 na:s.arrs.length=K.ab.length
 sz:∀ i (h:i < K.ab.length),(s.arrs.getD i []).length=K.ab[i].2
 steps:s.steps≤K.E.most
 few:s.evs.length≤s.steps
 fv:∀ x ∈ s.vars,fitsI x
 fa:∀ l ∈ s.arrs,∀ x ∈ l,fitsI x
 fl:∀ x ∈ s.left,fitsI x
theorem Mc.next {K:Me} {w w':World} {s:Rn} {sv ve:Value} (hk:K.ok) (h:Mc K w s sv ve) (hb:Below w.heap.size w w'):Mc K w' s sv ve where
 mach:=h.mach.next hb
 evs:=ownsRow_below h.evs hb
 left:=h.left.below (hb.mono (Nat.le_trans hk.b0 h.size))
 map:=ownsMap_only h.map (Only.below (B:=K.M) hb) (fun e=>hk.mg e.symm)
 vars:=h.vars.next hb
 rows:=fun i hi=>(hb.cell (p:=⟨K.ar,i,none⟩) (Nat.lt_of_lt_of_le hk.r1 h.size)).trans (h.rows i hi)
 arrs:=fun i hi=>(h.arrs i hi).next hb
 size:=Nat.le_trans h.size hb.size
 nv:=h.nv
 na:=h.na
 sz:=h.sz
 steps:=h.steps
 few:=h.few
 fv:=h.fv
 fa:=h.fa
 fl:=h.fl
theorem only_cell {B:Nat} {w w':World} (ho:Only B w w') {a:Addr} {u:Value} (h:w.cell? a=some u) (hB:a.block ≠ B):w'.cell? a=some u :=
 (World.cell?_of_block (w:=w) (ho.block a.block (World.block_lt_of_cell? w a h) hB)).trans h
theorem Mc.setM {K:Me} {w w':World} {s s':Rn} {sv ve sv' ve':Value} (hk:K.ok) (h:Mc K w s sv ve) (ho:Only K.M w w') (hX:Blk w' K.M (machV K 0 0 s' sv' ve') 84) (hv:s'.vars=s.vars) (ha:s'.arrs=s.arrs) (he:w.ownsRow K.B1 100 3 ve' s'.evs.length (cellsV s'.evs)) (hl:IntsAt w K.H0 s'.left sv') (hs:s'.steps≤K.E.most) (hf:s'.evs.length≤s'.steps) (hfl:∀ x ∈ s'.left,fitsI x):Mc K w' s' sv' ve' where
 mach:=hX
 evs:=ownsRow_only he ho hk.m1
 left:=hl.below (ho.old hk.m0 (Nat.le_trans hk.b0 h.size))
 map:=ownsMap_only h.map ho (fun e=>hk.mg e.symm)
 vars:=by rw [hv];exact h.vars.only ho (fun e=>hk.mv e.symm)
 rows:=fun i hi=>only_cell ho (h.rows i hi) (fun e=>hk.mr e.symm)
 arrs:=fun i hi=>by rw [ha];exact (h.arrs i hi).only ho (fun e=>hk.ma _ (List.getElem_mem hi) e.symm)
 size:=Nat.le_trans h.size ho.size
 nv:=by rw [hv];exact h.nv
 na:=by rw [ha];exact h.na
 sz:=by rw [ha];exact h.sz
 steps:=hs
 few:=hf
 fv:=by rw [hv];exact h.fv
 fa:=by rw [ha];exact h.fa
 fl:=hfl
theorem fits_set {l:List Int} (h:∀ x ∈ l,fitsI x) (i:Nat) {v:Int} (hv:fitsI v):∀ x ∈ l.set i v,fitsI x:=by
 intro x hx
 rcases List.mem_or_eq_of_mem_set hx with h1 | rfl
 · exact h x h1
 · exact hv
theorem Mc.setV {K:Me} {w:World} {s:Rn} {sv ve:Value} (hk:K.ok) (h:Mc K w s sv ve) (i:Nat) {v:Int} (hv:fitsI v):Mc K (w.setCell ⟨K.vb,i,none⟩ (.int .i64 v)) { s with vars:=s.vars.set i v } sv ve:=by
 have ho:Only K.vb w (w.setCell ⟨K.vb,i,none⟩ (.int .i64 v)):=(Only.refl K.vb w).setCell (p:=⟨K.vb,i,none⟩) rfl _
 exact
 { mach:=h.mach.only ho hk.mv
   evs:=ownsRow_only h.evs ho hk.v1
   left:=h.left.below (ho.old hk.v0 (Nat.le_trans hk.b0 h.size))
   map:=ownsMap_only h.map ho (fun e=>hk.vg e.symm)
   vars:=by have:=h.vars.set i (.int .i64 v);rwa [intsV_set] at this
   rows:=fun i hi=>only_cell ho (h.rows i hi) (fun e=>hk.vr e.symm)
   arrs:=fun i hi=>(h.arrs i hi).only ho (fun e=>hk.va' _ (List.getElem_mem hi) e.symm)
   size:=Nat.le_trans h.size ho.size
   nv:=by rw [List.length_set];exact h.nv
   na:=h.na
   sz:=h.sz
   steps:=h.steps
   few:=h.few
   fv:=fits_set h.fv i hv
   fa:=h.fa
   fl:=h.fl }
theorem nodup_ne {l:List (Nat × Nat)} (h:(l.map (·.1)).Nodup) {i j:Nat} (hi:i < l.length) (hj:j < l.length) (hne:i ≠ j):l[i].1 ≠ l[j].1:=by
 intro e
 have h1:(l.map (·.1))[i]'(by simpa using hi)=(l.map (·.1))[j]'(by simpa using hj):=by simpa using e
 exact hne ((List.getElem_inj h).1 h1)
theorem Mc.setA {K:Me} {w:World} {s:Rn} {sv ve:Value} (hk:K.ok) (h:Mc K w s sv ve) (i:Nat) (hi:i < K.ab.length) (j:Nat) {v:Int} (hv:fitsI v):Mc K (w.setCell ⟨K.ab[i].1,j,none⟩ (.int .i64 v)) { s with arrs:=s.arrs.set i ((s.arrs.getD i []).set j v) } sv ve:=by
 have hm:=List.getElem_mem hi
 have ho:Only K.ab[i].1 w (w.setCell ⟨K.ab[i].1,j,none⟩ (.int .i64 v)):=(Only.refl K.ab[i].1 w).setCell (p:=⟨K.ab[i].1,j,none⟩) rfl _
 have hna:=h.na
 have hget:∀ k,(s.arrs.set i ((s.arrs.getD i []).set j v)).getD k []=if k=i then (s.arrs.getD i []).set j v else s.arrs.getD k []:=by
  intro k
  simp only [List.getD_eq_getElem?_getD,List.getElem?_set]
  by_cases hki:i=k
  · subst hki
    rw [if_pos rfl,if_pos (by omega),if_pos rfl]
    rfl
  · rw [if_neg hki,if_neg (fun e=>hki e.symm)]
 exact
 { mach:=h.mach.only ho (hk.ma _ hm)
   evs:=ownsRow_only h.evs ho (hk.a1 _ hm)
   left:=h.left.below (ho.old (hk.a0 _ hm) (Nat.le_trans hk.b0 h.size))
   map:=ownsMap_only h.map ho (fun e=>hk.ag _ hm e.symm)
   vars:=h.vars.only ho (hk.va' _ hm)
   rows:=fun i hi=>only_cell ho (h.rows i hi) (fun e=>hk.ra _ hm e.symm)
   arrs:=fun k hkl=>by
    rw [hget]
    by_cases hki:k=i
    · subst hki
      rw [if_pos rfl]
      have:=(h.arrs k hkl).set j (.int .i64 v)
      rwa [intsV_set] at this
    · rw [if_neg hki]
      exact (h.arrs k hkl).only ho (nodup_ne hk.aa hkl hi hki)
   size:=Nat.le_trans h.size ho.size
   nv:=h.nv
   na:=by rw [List.length_set];exact h.na
   sz:=fun k hkl=>by
    rw [hget]
    by_cases hki:k=i
    · subst hki
      rw [if_pos rfl,List.length_set]
      exact h.sz k hkl
    · rw [if_neg hki]
      exact h.sz k hkl
   steps:=h.steps
   few:=h.few
   fv:=h.fv
   fa:=by
    intro l hl
    rcases List.mem_or_eq_of_mem_set hl with h1 | rfl
    · exact h.fa l h1
    · refine fits_set ?_ j hv
      intro x hx
      rw [List.getD_eq_getElem?_getD,List.getElem?_eq_getElem (by omega)] at hx
      exact h.fa _ (List.getElem_mem _) x hx
   fl:=h.fl }
theorem Mc.turn {K:Me} {w w':World} {s:Rn} {sv ve:Value} (hk:K.ok) (h:Mc K w s sv ve) (hb:Below K.B1 w w') {s':Rn} {ve':Value} (he:w'.ownsRow K.B1 100 3 ve' s'.evs.length (cellsV s'.evs)) (hv:s'.vars=s.vars) (ha:s'.arrs=s.arrs) (hl:s'.left=s.left) (hs:s'.steps=s.steps) (hf:s'.evs.length≤s'.steps):Mc K (w'.setCell ⟨K.M,6,none⟩ ve') s' sv ve':=by
 have ho:Only K.M w' (w'.setCell ⟨K.M,6,none⟩ ve'):=(Only.refl K.M w').setCell (p:=⟨K.M,6,none⟩) rfl _
 have hX:Blk w' K.M (machV K 0 0 s sv ve) 84:=h.mach.below hb hk.m1
 have hX2:=hX.set 6 ve'
 have e2:(machV K 0 0 s sv ve).setIfInBounds 6 ve'=machV K 0 0 s' sv ve':=by unfold machV;rw [hs];rfl
 rw [e2] at hX2
 exact
 { mach:=hX2
   evs:=ownsRow_only he ho hk.m1
   left:=by rw [hl];exact (h.left.below (hb.mono hk.b0)).below (ho.old hk.m0 (Nat.le_trans hk.b0 (Nat.le_trans h.size hb.size)))
   map:=by
    have h1:OwnM w' K.G K.gn K.D:=by
     obtain ⟨es,ck,hh,r⟩:=h.map
     exact ⟨es,ck,(hb.block _ hk.g1).trans hh,r⟩
    exact ownsMap_only h1 ho (fun e=>hk.mg e.symm)
   vars:=by rw [hv];exact (h.vars.below hb hk.v1).only ho (fun e=>hk.mv e.symm)
   rows:=fun i hi=>only_cell ho ((hb.cell (p:=⟨K.ar,i,none⟩) hk.r1).trans (h.rows i hi)) (fun e=>hk.mr e.symm)
   arrs:=fun i hi=>by rw [ha];exact ((h.arrs i hi).below hb (hk.a1 _ (List.getElem_mem hi))).only ho (fun e=>hk.ma _ (List.getElem_mem hi) e.symm)
   size:=Nat.le_trans h.size (Nat.le_trans hb.size ho.size)
   nv:=by rw [hv];exact h.nv
   na:=by rw [ha];exact h.na
   sz:=by rw [ha];exact h.sz
   steps:=by rw [hs];exact h.steps
   few:=hf
   fv:=by rw [hv];exact h.fv
   fa:=by rw [ha];exact h.fa
   fl:=by rw [hl];exact h.fl }
def At (K:Me) (w:World) (s:Rn) (r:Option Nat):Prop:=∃ sv ve,Mc K w s sv ve∧ve.ownBlock=r
theorem At.next {K:Me} {w w':World} {s:Rn} {r:Option Nat} (hk:K.ok) (h:At K w s r) (hb:Below w.heap.size w w'):At K w' s r:=by
 obtain ⟨sv,ve,h,hr⟩:=h
 exact ⟨sv,ve,h.next hk hb,hr⟩
theorem At.alloc {K:Me} {w:World} {s:Rn} {r:Option Nat} (hk:K.ok) (h:At K w s r) (o:Obj):At K (w.alloc o) s r:=h.next hk ((Below.refl _ w).alloc (Nat.le_refl _) o)
theorem At.drew {K:Me} {w:World} {s:Rn} {r:Option Nat} (hk:K.ok) (h:At K w s r):At K w.drew s r:=h.next hk (Below.refl _ w).drew
theorem At.size {K:Me} {w:World} {s:Rn} {r:Option Nat} (h:At K w s r):K.B1≤w.heap.size:=by
 obtain ⟨sv,ve,h,_⟩:=h
 exact h.size
theorem At.row {K:Me} {w:World} {s:Rn} {r:Option Nat} (h:At K w s r):∀ g,r=some g→K.B1≤g∧g < w.heap.size:=by
 obtain ⟨sv,ve,h,hr⟩:=h
 intro g hg
 exact h.evs.lt g (hr.trans hg)
structure Kr (K:Me) (r r':Option Nat) (w w':World):Prop where
 os:w'.os=w.os
 tape:w'.tape=w.tape
 output:w'.output=w.output
 size:w.heap.size≤w'.heap.size
 block:∀ b,b < w.heap.size→b ≠ K.M→b ≠ K.vb→(∀ x ∈ K.ab,b ≠ x.1)→r ≠ some b→w'.heap[b]?=w.heap[b]?
 row:r'=r ∨ ∀ g,r'=some g→w.heap.size≤g
theorem Kr.refl (K:Me) (r:Option Nat) (w:World):Kr K r r w w:=⟨rfl,rfl,rfl,Nat.le_refl _,fun _ _ _ _ _ _=>rfl,.inl rfl⟩
theorem Kr.trans {K:Me} {r0 r1 r2:Option Nat} {a b c:World} (h:Kr K r0 r1 a b) (k:Kr K r1 r2 b c):Kr K r0 r2 a c where
 os:=k.os.trans h.os
 tape:=k.tape.trans h.tape
 output:=k.output.trans h.output
 size:=Nat.le_trans h.size k.size
 block:=fun i hi h1 h2 h3 h4=>(k.block i (Nat.lt_of_lt_of_le hi h.size) h1 h2 h3 (fun e=>by
  rcases h.row with h5 | h5
  · rw [h5] at e;exact h4 e
  · have:=h5 i e;omega)).trans (h.block i hi h1 h2 h3 h4)
 row:=by
  rcases k.row with h2 | h2
  · rw [h2];exact h.row
  · exact .inr fun g hg=>Nat.le_trans h.size (h2 g hg)
theorem Kr.below {K:Me} {r:Option Nat} {w w':World} (h:Below w.heap.size w w'):Kr K r r w w':=⟨h.os,h.tape,h.output,h.size,fun k hk _ _ _ _=>h.block k hk,.inl rfl⟩
theorem Kr.alloc {K:Me} {r r':Option Nat} {a w:World} (h:Kr K r r' a w) (o:Obj):Kr K r r' a (w.alloc o):=h.trans (Kr.below ((Below.refl _ w).alloc (Nat.le_refl _) o))
theorem Kr.drew {K:Me} {r r':Option Nat} {a w:World} (h:Kr K r r' a w):Kr K r r' a w.drew:=h.trans (Kr.below (Below.refl _ w).drew)
theorem Kr.onlyM {K:Me} {r:Option Nat} {w w':World} (h:Only K.M w w'):Kr K r r w w':=⟨h.os,h.tape,h.output,h.size,fun k hk h1 _ _ _=>h.block k hk h1,.inl rfl⟩
theorem Kr.onlyV {K:Me} {r:Option Nat} {w w':World} (h:Only K.vb w w'):Kr K r r w w':=⟨h.os,h.tape,h.output,h.size,fun k hk _ h1 _ _=>h.block k hk h1,.inl rfl⟩
theorem Kr.onlyA {K:Me} {r:Option Nat} {w w':World} {x:Nat × Nat} (hx:x ∈ K.ab) (h:Only x.1 w w'):Kr K r r w w':=⟨h.os,h.tape,h.output,h.size,fun k hk _ _ h1 _=>h.block k hk (h1 x hx),.inl rfl⟩
theorem Kr.old {K:Me} {r r':Option Nat} {w w':World} {s:Rn} (hk:K.ok) (h:Kr K r r' w w') (ha:At K w s r):Below K.H0 w w' :=
 ⟨h.os,h.tape,h.output,h.size,fun k hlt=>h.block k (Nat.lt_of_lt_of_le hlt (Nat.le_trans hk.b0 ha.size)) (fun e=>by have:=hk.m0;omega) (fun e=>by have:=hk.v0;omega) (fun x hx e=>by have:=hk.a0 x hx;omega) (fun e=>by have:=(ha.row k e).1;have:=hk.b0;omega)⟩
structure Tm (K:Me) (w:World) (r:Option Nat) (X:Nat) (cs:Array Value) (t:TypeId):Prop where
 blk:Blk w X cs t
 base:K.B1≤X
 row:r ≠ some X
theorem Tm.kr {K:Me} (hk:K.ok) {r r':Option Nat} {w w':World} {X:Nat} {cs:Array Value} {t:TypeId} (h:Tm K w r X cs t) (hr:Kr K r r' w w'):Tm K w' r' X cs t where
 blk:=(hr.block X h.blk.lt (fun e=>by have:=hk.m1;have:=h.base;omega) (fun e=>by have:=hk.v1;have:=h.base;omega) (fun x hx e=>by have:=hk.a1 x hx;have:=h.base;omega) h.row).trans h.blk
 base:=h.base
 row:=by
  rcases hr.row with h1 | h1
  · rw [h1];exact h.row
  · intro e
    have h2:=h1 X e
    have h3:=h.blk.lt
    omega
theorem Tm.new {K:Me} {w:World} {s:Rn} {r:Option Nat} (ha:At K w s r) (cs:Array Value) (t:TypeId):Tm K (w.alloc (.cells cs t)) r w.heap.size cs t where
 blk:=Blk.new w cs t
 base:=ha.size
 row:=fun e=>by have:=(ha.row _ e).2;omega
theorem Tm.next {K:Me} {w w':World} {r:Option Nat} {X:Nat} {cs:Array Value} {t:TypeId} (h:Tm K w r X cs t) (hb:Below w.heap.size w w'):Tm K w' r X cs t:=⟨h.blk.next hb,h.base,h.row⟩
theorem Tm.set {K:Me} {w:World} {r:Option Nat} {X:Nat} {cs:Array Value} {t:TypeId} (h:Tm K w r X cs t) (o:Nat) (u:Value):Tm K (w.setCell ⟨X,o,none⟩ u) r X (cs.setIfInBounds o u) t:=⟨h.blk.set o u,h.base,h.row⟩
theorem At.tmp {K:Me} {w w':World} {s:Rn} {r:Option Nat} {X:Nat} (hk:K.ok) (h:At K w s r) (hX:K.B1≤X) (hr:r ≠ some X) (ho:Only X w w'):At K w' s r:=by
 obtain ⟨sv,ve,h,he⟩:=h
 have hne:∀ b,b < K.B1→b ≠ X:=fun b hb e=>by omega
 refine ⟨sv,ve,?_,he⟩
 exact
 { mach:=h.mach.only ho (hne _ hk.m1)
   evs:=h.evs.kept (only_grown ho) (by rw [he];cases r with | none=>exact .inl rfl | some g=>exact .inr hr)
   left:=h.left.below (ho.old (Nat.le_trans hk.b0 hX) (Nat.le_trans hk.b0 h.size))
   map:=ownsMap_only h.map ho (hne _ hk.g1)
   vars:=h.vars.only ho (hne _ hk.v1)
   rows:=fun i hi=>only_cell ho (h.rows i hi) (hne _ hk.r1)
   arrs:=fun i hi=>(h.arrs i hi).only ho (hne _ (hk.a1 _ (List.getElem_mem hi)))
   size:=Nat.le_trans h.size ho.size
   nv:=h.nv
   na:=h.na
   sz:=h.sz
   steps:=h.steps
   few:=h.few
   fv:=h.fv
   fa:=h.fa
   fl:=h.fl }
def endedV (st wr:Int):PanicEntry:={ v:=.iface 117 (.agg #[.int .i64 st,.int .i64 wr]),recovered:=false }
def Ran {α:Type} (K:Me) (val:α→Value) (good:α→Prop) (r:Option Nat) (w:World) (x:Res α):Ending→World→Prop:=fun e w'=>∃ r',Kr K r r' w w' ∧
 ((∃ a s',x=.go a s'∧e=.returned (val a)∧good a∧At K w' s' r') ∨ (∃ st wr s',x=.stop st wr s'∧e=.panicked [endedV st wr]∧At K w' s' r'))
theorem Ran.go {α:Type} {K:Me} {val:α→Value} {good:α→Prop} {r r':Option Nat} {w w':World} {x:Res α} {a:α} {s':Rn} (hr:x=.go a s') (hb:Kr K r r' w w') (hg:good a) (h:At K w' s' r'):Ran K val good r w x (.returned (val a)) w':=⟨r',hb,.inl ⟨a,s',hr,rfl,hg,h⟩⟩
theorem Ran.stop {α:Type} {K:Me} {val:α→Value} {good:α→Prop} {r r':Option Nat} {w w':World} {x:Res α} {st wr:Int} {s':Rn} (hr:x=.stop st wr s') (hb:Kr K r r' w w') (h:At K w' s' r'):Ran K val good r w x (.panicked [endedV st wr]) w':=⟨r',hb,.inr ⟨st,wr,s',hr,rfl,h⟩⟩
abbrev unitV:Unit→Value:=fun _=>.tuple #[]
abbrev intV:Int→Value:=fun x=>.int .i64 x
abbrev boolV:Bool→Value:=fun b=>.bool b
def anyG {α:Type}:α→Prop:=fun _=>True
set_option maxRecDepth 100000 in
theorem step_any (K:Me) (hk:K.ok) (s:Rn) (r:Option Nat) (w:World) (h:At K w s r) :
    Calls Tryz.prog 166 #[.pointer (some ⟨K.M,0,none⟩)] w (Ran K unitV anyG r w (stepR K.E s)):=by
 obtain ⟨R,hR⟩:∃ R,stepR K.E s=R:=⟨_,rfl⟩
 rw [hR]
 unfold stepR at hR
 have ha:=h
 obtain ⟨sv,ve,hm,he⟩:=h
 have c2:w.cell? ⟨K.M,2,none⟩=some (.int .i64 K.E.most):=hm.mach.cell 2
 have c5:w.cell? ⟨K.M,5,none⟩=some (.int .i64 s.steps):=hm.mach.cell 5
 have z5:w.frozen? ⟨K.M,5,none⟩=false:=hm.mach.free 5
 have hs:=hm.steps
 have hmo:=hk.most
 have hb:(s.steps:Int)+1≤9223372036854775807:=by omega
 obtain ⟨T,hT⟩:∃ T:Nat,s.steps=T:=⟨_,rfl⟩
 obtain ⟨O,hO⟩:∃ O:Nat,K.E.most=O:=⟨_,rfl⟩
 rw [hT] at c5 hb
 rw [hO] at c2
 by_cases hq:s.steps=K.E.most
 · rw [if_pos hq] at hR
   have h1:((T:Int) == (O:Int))=true:=by rw [← hT,← hO,hq];simp
   clear hb
   have HH:=Lib.hid (And.intro hk (And.intro ha (And.intro hR (And.intro hq (And.intro hT (And.intro hO (And.intro hm (And.intro hs (And.intro hmo he)))))))))
   clear hk ha hR hq hT hO hm hs hmo he
   go_enter Tryz.func166,Tryz.ntmps166
   go_upto_region 0 with fail
   go_region
   all_goals
    go_wp2_with fail
    exact ⟨rfl,Ran.stop HH.out.2.2.1.symm (Kr.refl K r w).drew (HH.out.2.1.drew HH.out.1)⟩
 · rw [if_neg hq] at hR
   have h1:((T:Int) == (O:Int))=false:=by rw [← hT,← hO];simp;omega
   have HH:=Lib.hid (And.intro hk (And.intro ha (And.intro hR (And.intro hq (And.intro hT (And.intro hO (And.intro hm (And.intro hs (And.intro hmo he)))))))))
   clear hk ha hR hq hT hO hm hs hmo he
   go_enter Tryz.func166,Tryz.ntmps166
   go_upto_region 0 with fail
   go_region
   all_goals
    go_wp2_with fail
    go_end0
    obtain ⟨hk,ha,hR,hq,hT,hO,hm,hs,hmo,he⟩:=HH.out
    have ho:Only K.M w (w.drew.setCell ⟨K.M,5,none⟩ (.int .i64 (T+1))):=(Only.below (B:=K.M) (Below.refl _ w).drew).setCell (p:=⟨K.M,5,none⟩) rfl _
    have hX:Blk w.drew K.M (machV K 0 0 s sv ve) 84:=hm.mach
    have hX2:=hX.set 5 (.int .i64 (T+1))
    have e2:(machV K 0 0 s sv ve).setIfInBounds 5 (.int .i64 (T+1))=machV K 0 0 { s with steps:=s.steps+1 } sv ve:=by unfold machV;rw [← hT];rfl
    rw [e2] at hX2
    exact Ran.go (val:=unitV) (a:=()) hR.symm (Kr.onlyM ho) trivial ⟨sv,ve,hm.setM hk ho hX2 rfl rfl hm.evs hm.left (by show s.steps+1≤_;omega) (Nat.le_succ_of_le hm.few) hm.fl,he⟩
theorem halt_any (m:Value) (w:World):Calls Tryz.prog 165 #[m] w (fun e w'=>e=.panicked [endedV 2 0]∧w'=w):=by
 go_enter Tryz.func165,Tryz.ntmps165
 go_wp2_with fail
 exact ⟨rfl,rfl,rfl⟩
theorem fail_any (m:Value) (x:Int) (w:World):Calls Tryz.prog 191 #[m,.int .i64 x] w (fun e w'=>e=.panicked [endedV 3 x]∧w'=w):=by
 go_enter Tryz.func191,Tryz.ntmps191
 go_wp2_with fail
 exact ⟨rfl,rfl,rfl⟩
theorem Mc.look {K:Me} {w:World} {s:Rn} {sv ve:Value} (hk:K.ok) (h:Mc K w s sv ve) (nm:ByteArray) (hn:nm.size≤maxLen):(Instr.lookup 66 (.map (some K.G)) (.string nm) false).run Tryz.prog w=.ok (.int .i64 (K.E.pl nm)) w:=by
 obtain ⟨c,hrun,hat,_⟩:=h.map.lookup_int law9 (by kernel_rfl:Tryz.prog.underlying 66=some (.map 9 3)) under_int (zeroI _) (WideMaps.keyOf_string_mk (by kernel_rfl) hn:keyOf Tryz.prog 9 (.string nm)=some (keyS nm))
 have h2:=(hk.look nm).symm.trans hat
 simp only [DataW.lit.injEq,Lit.int.injEq,true_and] at h2
 rw [h2]
 exact hrun
set_option maxRecDepth 100000 in
theorem variable_any (K:Me) (hk:K.ok) (s:Rn) (r:Option Nat) (nm:ByteArray) (hn:nm.size≤maxLen) (hp:K.E.pl nm < K.nv) (w:World) (h:At K w s r) :
    Calls Tryz.prog 187 #[.pointer (some ⟨K.M,0,none⟩),.string nm] w (fun e w'=>e=.returned (.pointer (some ⟨K.vb,K.E.pl nm,none⟩))∧w'=w.drew):=by
 have ha:=h.drew hk
 obtain ⟨sv,ve,hm,he⟩:=h
 obtain ⟨sv',ve',hm',-⟩:=ha
 have c0:w.cell? ⟨K.M,0,none⟩=some (.map (some K.G)):=hm.mach.cell 0
 have c7:w.cell? ⟨K.M,7,none⟩=some (.slice (some ⟨K.vb,0,none⟩) K.nv K.nv):=hm.mach.cell 7
 have hl:=hm'.look hk nm hn
 obtain ⟨I,hI⟩:∃ I:Nat,K.E.pl nm=I:=⟨_,rfl⟩
 rw [hI] at hl hp ⊢
 have hp1:(I:Int) < K.nv:=by omega
 clear hm hm' he hk hn hI
 go_enter Tryz.func187,Tryz.ntmps187
 go_upto_region 1 with fail
 go_region
 all_goals
  go_wp2_with fail
  go_ret
  exact ⟨rfl,rfl⟩
theorem step_go {E:Rv} {s s1:Rn} {u:Unit} (h:stepR E s=.go u s1):s1={ s with steps:=s.steps+1 }∧s.steps ≠ E.most:=by
 unfold stepR at h
 split at h
 · cases h
 · rename_i hne
   cases h
   exact ⟨rfl,hne⟩
theorem Kr.grown {K:Me} {r r':Option Nat} {a w w':World} (h:Kr K r r a w) (hg:w.grownBy w' r) (hr:r'=r ∨ ∀ g,r'=some g→w.heap.size≤g):Kr K r r' a w' :=
 h.trans ⟨hg.os,hg.tape,hg.output,hg.size,fun k hk _ _ _ hne=>hg.block k hk (fun e=>hne e.symm),hr⟩
def arrB (K:Me) (nm:ByteArray):Nat × Nat:=K.ab.getD (K.E.pl nm) (0,0)
abbrev itemV (K:Me) (nm:ByteArray):Nat→Value:=fun j=>.pointer (some ⟨(arrB K nm).1,j,none⟩)
set_option maxRecDepth 100000 in
theorem item_any (K:Me) (hk:K.ok) (s:Rn) (r:Option Nat) (nm:ByteArray) (hn:nm.size≤maxLen) (hp:K.E.pl nm < K.ab.length) (i:Int) (w:World) (h:At K w s r) :
    Calls Tryz.prog 162 #[.pointer (some ⟨K.M,0,none⟩),.string nm,.int .i64 i] w (Ran K (itemV K nm) (fun j=>j < (arrB K nm).2) r w (itemR K.E nm i s)):=by
 have HS:=Lib.hid (step_any K hk s r w h)
 obtain ⟨R,hR⟩:∃ R,itemR K.E nm i s=R:=⟨_,rfl⟩
 rw [hR]
 unfold itemR at hR
 have hmem:=List.getElem_mem hp
 have hab:arrB K nm=K.ab[K.E.pl nm]:=by unfold arrB;rw [List.getD_eq_getElem?_getD,List.getElem?_eq_getElem hp];rfl
 unfold itemV
 obtain ⟨⟨A,Z⟩,hAZ⟩:∃ x,arrB K nm=x:=⟨_,rfl⟩
 rw [hAZ] at hab ⊢
 have hZ:=hk.az _ hmem
 rw [← hab] at hZ hmem
 simp only at hZ ⊢
 have HH:=Lib.hid (And.intro hk (And.intro hR (And.intro hmem h)))
 have HP:=Lib.hid (And.intro hp (And.intro hn hab))
 clear h hR hn hab hAZ hmem
 go_enter Tryz.func162,Tryz.ntmps162
 go_wp2_with fail
 refine HS.out.mono ?_
 rintro e w1 ⟨r1,hkr,⟨u,s1,hr1,rfl,-,h1⟩ | ⟨st,wr,s1,hr1,rfl,h1⟩⟩
 · have hR:=HH.out.2.1
   rw [hr1] at hR
   change (if _ then _ else _)=R at hR
   have ha:=h1
   obtain ⟨sv,ve,hm,he⟩:=h1
   obtain ⟨sv',ve',hm',-⟩:=ha.drew hk
   have c0:w1.cell? ⟨K.M,0,none⟩=some (.map (some K.G)):=hm.mach.cell 0
   have c8:w1.cell? ⟨K.M,8,none⟩=some K.va:=hm.mach.cell 8
   obtain ⟨a,c,hva,hlc,hcm,hcase⟩:=hk.rows
   obtain ⟨-,hn,hab⟩:=HP.out
   obtain rfl:=hcase.resolve_left (by omega)
   rw [hva] at c8
   have hl:=hm'.look hk nm hn
   have hrow:=hm.rows _ hp
   have hsz:=hm.sz _ hp
   rw [← hab] at hrow hsz
   obtain ⟨I,hI⟩:∃ I:Nat,K.E.pl nm=I:=⟨_,rfl⟩
   rw [hI] at hrow hl hsz hp hR
   rw [hsz] at hR
   unfold rowV at hrow
   simp only at hrow hsz hR
   have hp1:(I:Int) < K.ab.length:=by omega
   have HH2:=Lib.hid (And.intro ha (And.intro hkr hR))
   clear hm hm' he hab hR ha hkr hsz hva hlc hcm hcase HS hn hr1 hI
   by_cases hi0:i < 0
   · have hb0:decide (i < 0)=true:=by simpa using hi0
     go_upto_region 2 with fail
     go_region
     all_goals
      go_wp2_with fail
      refine (fail_any _ _ _).mono ?_
      rintro e w2 ⟨rfl,rfl⟩
      obtain ⟨ha,hkr,hR⟩:=HH2.out
      rw [if_pos (.inl hi0)] at hR
      exact ⟨rfl,Ran.stop hR.symm hkr.drew (ha.drew HH.out.1)⟩
   · by_cases hi1:(Z:Int)≤i
     · go_upto_region 2 with fail
       go_region
       all_goals
        go_wp2_with fail
        refine (fail_any _ _ _).mono ?_
        rintro e w2 ⟨rfl,rfl⟩
        obtain ⟨ha,hkr,hR⟩:=HH2.out
        rw [if_pos (.inr hi1)] at hR
        exact ⟨rfl,Ran.stop hR.symm hkr.drew (ha.drew HH.out.1)⟩
     · obtain ⟨j,rfl⟩:∃ j:Nat,i=j:=⟨i.toNat,by omega⟩
       have hj:j < Z:=by omega
       go_upto_region 2 with fail
       go_region
       all_goals
        go_wp2_with fail
        go_ret
        obtain ⟨ha,hkr,hR⟩:=HH2.out
        rw [if_neg (by omega)] at hR
        exact Ran.go (val:=fun j=>.pointer (some ⟨A,j,none⟩)) hR.symm hkr.drew (by simpa using hj) (ha.drew HH.out.1)
 · exact ⟨rfl,Ran.stop (by rw [← HH.out.2.1,hr1];rfl) hkr h1⟩
theorem info_event:(Tryz.prog.info? 100).map (fun i=>(i.zero,i.size,i.bytes))=some (some (.agg #[.bool false,.int .i64 0,.bool false]),3,24):=by kernel_rfl
theorem event_one (b:Bool) (n:Int) (c:Bool):∀ u ∈ evV (b,n,c),u.oneCell'=true:=by
 intro u hu
 simp only [evV,List.mem_cons,List.not_mem_nil,or_false] at hu
 rcases hu with rfl | rfl | rfl <;> rfl
set_option maxRecDepth 100000 in
theorem note_any (K:Me) (hk:K.ok) (s:Rn) (r:Option Nat) (b:Bool) (n:Int) (c:Bool) (hs:s.evs.length < s.steps) (w:World) (h:At K w s r) :
    Calls Tryz.prog 192 #[.pointer (some ⟨K.M,0,none⟩),.agg #[.bool b,.int .i64 n,.bool c]] w (fun e w'=>e=.returned (.tuple #[])∧∃ r',Kr K r r' w w'∧At K w' (noteR b n c s) r'):=by
 obtain ⟨W1,hW1⟩:∃ W1,w.alloc (.cells #[.bool b,.int .i64 n,.bool c] 100)=W1:=⟨_,rfl⟩
 have ht:=Tm.new h #[.bool b,.int .i64 n,.bool c] 100
 have h1:=h.alloc hk (.cells #[.bool b,.int .i64 n,.bool c] 100)
 have hkr:Kr K r r w W1:=by rw [← hW1];exact (Kr.refl K r w).alloc _
 rw [hW1] at ht h1
 obtain ⟨X,hX⟩:∃ X,w.heap.size=X:=⟨_,rfl⟩
 rw [hX] at ht
 have hB1:=h1.size
 obtain ⟨sv,ve,hm,he⟩:=h1
 have hst:=hm.steps
 have hmo:=hk.most
 have c6:W1.cell? ⟨K.M,6,none⟩=some ve:=hm.mach.cell 6
 have z6:W1.frozen? ⟨K.M,6,none⟩=false:=hm.mach.free 6
 have y6:(W1.alloc (.cells #[.bool b,.int .i64 n,.bool c] 100)).cell? ⟨K.M,6,none⟩=some ve:=(hm.mach.alloc _).cell 6
 have x0:W1.cell? ⟨X,0,none⟩=some (.bool b):=ht.blk.cell 0
 have x1:W1.cell? ⟨X,1,none⟩=some (.int .i64 n):=ht.blk.cell 1
 have x2:W1.cell? ⟨X,2,none⟩=some (.bool c):=ht.blk.cell 2
 obtain ⟨i0,hi0,hz0,hz1,hz2⟩:=info_parts info_event
 have hl1:s.evs.length+1≤65536:=by omega
 obtain ⟨N,hN⟩:∃ N,s.evs.length=N:=⟨_,rfl⟩
 have hev:=hm.evs
 rw [hN] at hev hl1
 obtain ⟨CS,hCS⟩:∃ C,cellsV s.evs=C:=⟨_,rfl⟩
 rw [hCS] at hev
 have HI0:=Lib.hid hi0;clear hi0
 have HZ0:=Lib.hid hz0;clear hz0
 have HZ1:=Lib.hid hz1;clear hz1
 have HZ2:=Lib.hid hz2;clear hz2
 have HEV:=Lib.hid hev;clear hev
 have HM:=Lib.hid (And.intro hk (And.intro hm (And.intro he (And.intro hkr (And.intro hs (And.intro hN hCS))))))
 clear hm he hkr ht hs h hst hmo hN hCS
 have HW1:=Lib.hid hW1;clear hW1
 have HX:=Lib.hid hX;clear hX
 go_enter Tryz.func192,Tryz.ntmps192
 go_upto_region 1 with fail
 rw [HW1.out,HX.out]
 go_region_law
  (refine step_append_lies _ (by rfl) _ _ _ (by rfl) K.B1 100 i0 _ 3 24 Tryz.underlying44 HI0.out HZ0.out HZ1.out HZ2.out rfl (by omega) ve N CS (by rfl) (HEV.out.drew.alloc _) ⟨W1.heap.size,0,none⟩ 1 1 [.bool b,.int .i64 n,.bool c] (by rfl) (by rfl) (World.news_of_block (cs:=#[.bool b,.int .i64 n,.bool c]) (t:=100) (fr:=(0,0)) (heap_alloc_new W1.drew _)) (event_one b n c) (by omega) (by unfold maxLen;omega) (by omega) (by simp;omega) (W1.heap.size+1) (by simp) ?_
   intro gg cap w2 hown2 hgrow hat hlt2
   have q6:w2.cell? ⟨K.M,6,none⟩=some ve:=(blk_grown ((show Blk W1.drew K.M _ _ from HM.out.2.1.mach).alloc _) hgrow (fun e=>by have:=HEV.out.lt _ e;have:=HM.out.1.m1;omega)).cell 6
   have z7:w2.frozen? ⟨K.M,6,none⟩=false:=(blk_grown ((show Blk W1.drew K.M _ _ from HM.out.2.1.mach).alloc _) hgrow (fun e=>by have:=HEV.out.lt _ e;have:=HM.out.1.m1;omega)).free 6)
 all_goals
  go_wp2_with fail
  go_end0
  obtain ⟨hk,hm,he,hkr,hs,hN,hCS⟩:=HM.out
  have hgW:=(World.size_alloc W1.drew (.cells #[.bool b,.int .i64 n,.bool c] 100))
  have hb2:Below K.B1 W1 w2:=below_grown ((Below.refl K.B1 W1).drew.alloc hB1 _) (by rw [hgW];exact Nat.le_succ_of_le hB1) hgrow (fun g hg=>(HEV.out.lt g hg).1)
  have hkr2:=(hkr.drew.alloc (.cells #[.bool b,.int .i64 n,.bool c] 100)).grown (r':=some gg) (by rw [← he];exact hgrow) (by
   rcases hat with h | h
   · exact .inl (by rw [← he,h])
   · refine .inr fun g hg=>?_
     rw [hgW]
     have:=Option.some.inj hg
     have hd:W1.drew.heap.size=W1.heap.size:=rfl
     omega)
  refine ⟨rfl,some gg,hkr2.trans (Kr.onlyM ((Only.refl K.M w2).setCell (p:=⟨K.M,6,none⟩) rfl _)),sv,_,hm.turn hk hb2 (s':=noteR b n c s) ?_ rfl rfl rfl rfl ?_,rfl⟩
  · have e1:(noteR b n c s).evs=s.evs ++ [(b,n,c)]:=rfl
    rw [e1,cellsV_snoc,hCS,List.length_append,hN]
    exact hown2
  · have e1:(noteR b n c s).evs=s.evs ++ [(b,n,c)]:=rfl
    rw [e1,List.length_append]
    exact hs
theorem Mc.take {K:Me} {w:World} {s:Rn} {sv ve:Value} (hk:K.ok) (hm:Mc K w s sv ve) {x:Int} {l:List Int} (hL:s.left=x :: l) (v':Value) (hv:IntsAt w K.H0 l v'):Mc K (w.setCell ⟨K.M,1,none⟩ v') { s with left:=l } v' ve:=by
 have ho:Only K.M w (w.setCell ⟨K.M,1,none⟩ v'):=(Only.refl K.M w).setCell (p:=⟨K.M,1,none⟩) rfl _
 have hX:=hm.mach.set 1 v'
 have e2:(machV K 0 0 s sv ve).setIfInBounds 1 v'=machV K 0 0 { s with left:=l } v' ve:=rfl
 rw [e2] at hX
 exact hm.setM hk ho hX rfl rfl hm.evs hv hm.steps hm.few (fun y hy=>hm.fl y (by rw [hL];exact List.mem_cons_of_mem _ hy))
set_option maxRecDepth 100000 in
theorem input_any (K:Me) (hk:K.ok) (s:Rn) (r:Option Nat) (w:World) (h:At K w s r) :
    Calls Tryz.prog 189 #[.pointer (some ⟨K.M,0,none⟩)] w (Ran K intV fitsI r w (inputR K.E s)):=by
 have HS:=Lib.hid (step_any K hk s r w h)
 obtain ⟨R,hR⟩:∃ R,inputR K.E s=R:=⟨_,rfl⟩
 rw [hR]
 unfold inputR at hR
 have ha:=h
 obtain ⟨sv,ve,hm,he⟩:=h
 have c1:w.cell? ⟨K.M,1,none⟩=some sv:=hm.mach.cell 1
 obtain ⟨a,c,rfl,hlc,hcm,hcase⟩:=hm.left
 cases hL:s.left with
 | nil =>
   rw [hL] at hR c1
   simp only [List.length_nil] at hR c1
   have HH:=Lib.hid (And.intro hk (And.intro hR ha))
   clear hm hL hcase hlc hcm ha hR he HS
   go_enter Tryz.func189,Tryz.ntmps189
   go_wp2_with fail
   refine (halt_any _ _).mono ?_
   rintro e w2 ⟨rfl,rfl⟩
   exact ⟨rfl,Ran.stop HH.out.2.1.symm (Kr.refl K r _) HH.out.2.2⟩
 | cons x l =>
   rw [hL] at hR c1 hlc
   have hfx:=hm.fl
   rw [hL] at hfx
   simp only [List.length_cons] at hR c1 hlc
   have hne:(((l.length+1:Nat):Int) == 0)=false:=by simp;omega
   have HH:=Lib.hid (And.intro hk (And.intro hR (And.intro ha hL)))
   have HFX:=Lib.hid hfx
   clear hm hL hcase hlc hcm ha hR he hfx
   go_enter Tryz.func189,Tryz.ntmps189
   go_wp2_with fail
   refine HS.out.mono ?_
   rintro e w1 ⟨r1,hkr,⟨u,s1,hr1,rfl,-,h1⟩ | ⟨st,wr,s1,hr1,rfl,h1⟩⟩
   · obtain ⟨hk,hR,ha,hL⟩:=HH.out
     rw [hr1] at hR
     obtain ⟨hs1,hne1⟩:=step_go hr1
     have ha1:=h1
     obtain ⟨sv,ve,hm,he⟩:=h1
     have hL1:s1.left=x :: l:=by rw [hs1];exact hL
     have c1:w1.cell? ⟨K.M,1,none⟩=some sv:=hm.mach.cell 1
     have z1:w1.frozen? ⟨K.M,1,none⟩=false:=hm.mach.free 1
     have hlf:=hm.left
     rw [hL1] at hlf
     obtain ⟨a,c,rfl,hlc,hcm,hcase⟩:=hlf
     obtain ⟨b,o,rfl,hbH,hcells⟩:=hcase.resolve_left (by simp)
     have g0:w1.cell? ⟨b,o,none⟩=some (.int .i64 x):=hcells 0 (by simp)
     simp only [List.length_cons] at c1 hlc
     have hb1:(1:Int)≤(c:Int):=by omega
     have hb2:(0:Int) < ((l.length+1:Nat):Int):=by omega
     have HH2:=Lib.hid (And.intro ha1 (And.intro hkr (And.intro hs1 (And.intro hR (And.intro hm (And.intro hL1 (And.intro he hcells)))))))
     clear hm he hL1 hcase hcells ha1 hR ha hL HS hkr hs1 hr1 hne1
     by_cases hc:c=1
     · subst hc
       obtain rfl:l=[]:=List.eq_nil_of_length_eq_zero (by omega)
       have HC:=Lib.hid (note_any K HH.out.1 { s1 with left:=[] } r1 true x false (by
        obtain ⟨hk,hR,⟨sv0,ve0,hm0,-⟩,hL⟩:=HH.out
        have:=hm0.few
        obtain ⟨-,-,hs1,-⟩:=HH2.out
        rw [hs1]
        show s.evs.length < s.steps+1
        omega) (w1.setCell ⟨K.M,1,none⟩ (.slice (some ⟨b,o,none⟩) 0 0)) ⟨_,ve,HH2.out.2.2.2.2.1.take HH.out.1 HH2.out.2.2.2.2.2.1 _ ⟨_,0,rfl,Nat.le_refl _,Nat.zero_le _,.inl rfl⟩,HH2.out.2.2.2.2.2.2.1⟩)
       go_wp2_with fail
       refine HC.out.mono ?_
       rintro e w2 ⟨rfl,r2,hk2,ha2⟩
       have HA2:=Lib.hid (And.intro hk2 ha2)
       clear hk2 ha2
       go_wp2_with fail
       go_ret
       obtain ⟨hk2,ha2⟩:=HA2.out
       obtain ⟨ha1,hkr,hs1,hR,hm,hL1,he,hcells⟩:=HH2.out
       exact Ran.go (val:=intV) (by rw [← hR];rfl) (hkr.trans ((Kr.onlyM ((Only.refl K.M w1).setCell (p:=⟨K.M,1,none⟩) rfl _)).trans hk2)) (HFX.out x (List.mem_cons_self ..)) ha2
     · have HCC:=Lib.hid (show l.length≤c - 1∧c - 1≤maxLen by omega)
       have HC:=Lib.hid (note_any K HH.out.1 { s1 with left:=l } r1 true x false (by
        obtain ⟨hk,hR,⟨sv0,ve0,hm0,-⟩,hL⟩:=HH.out
        have:=hm0.few
        obtain ⟨-,-,hs1,-⟩:=HH2.out
        rw [hs1]
        show s.evs.length < s.steps+1
        omega) (w1.setCell ⟨K.M,1,none⟩ (.slice (some ⟨b,o+1,none⟩) l.length (c - 1))) ⟨_,ve,HH2.out.2.2.2.2.1.take HH.out.1 HH2.out.2.2.2.2.2.1 _ ⟨_,c - 1,rfl,HCC.out.1,HCC.out.2,.inr ⟨b,o+1,rfl,hbH,fun i hi=>by have:=HH2.out.2.2.2.2.2.2.2 (i+1) (by simpa using hi);rw [show o+1+i=o+(i+1) by omega];simpa using this⟩⟩,HH2.out.2.2.2.2.2.2.1⟩)
       go_wp2_with fail
       refine HC.out.mono ?_
       rintro e w2 ⟨rfl,r2,hk2,ha2⟩
       have HA2:=Lib.hid (And.intro hk2 ha2)
       clear hk2 ha2
       go_wp2_with fail
       go_ret
       obtain ⟨hk2,ha2⟩:=HA2.out
       obtain ⟨ha1,hkr,hs1,hR,hm,hL1,he,hcells⟩:=HH2.out
       exact Ran.go (val:=intV) (by rw [← hR];rfl) (hkr.trans ((Kr.onlyM ((Only.refl K.M w1).setCell (p:=⟨K.M,1,none⟩) rfl _)).trans hk2)) (HFX.out x (List.mem_cons_self ..)) ha2
   · exact ⟨rfl,Ran.stop (by rw [← HH.out.2.1,hr1];rfl) hkr h1⟩
end Go.Proofs.YtmohmggnjldddaaGreatDoor
