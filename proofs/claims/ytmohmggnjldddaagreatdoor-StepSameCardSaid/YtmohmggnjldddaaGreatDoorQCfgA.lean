/-
  The lowering's small parts: number, edge, fresh, beginning, temporary, isTemporary, add: proved is what each comes to.
-/
import Derived.Test.YtmohmggnjldddaaGreatDoorQCfgF
import Derived.Deep.RegionWith
import Derived.Deep.RegionLaw
import Derived.Deep.AppendLies
import Derived.Deep.DeepCutAuto
import Derived.Deep.CutBlock
import Derived.Test.YtmohmggnjldddaaGreatDoorQWellA
import Derived.Deep.OwnRows
import Derived.WalkLawsBesides
import Derived.Laws.Rows
namespace Go.Proofs.YtmohmggnjldddaaGreatDoor
open Go Go.RowKit Go.Maps
structure Le where
 E:Lv
 M:Nat
 G:Nat
 gn:Nat
 D:DataW Unit
 vv:Value
 va:Value
 H0:Nat
 B1:Nat
def edV (e:Ed):List Value:=[.int .i64 e.fr,.int .i64 e.dt,.int .i64 e.kd,.int .i64 e.dst,.int .i64 e.arr,.int .i64 e.op,.int .i64 e.av,.int .i64 e.an,.int .i64 e.bv,.int .i64 e.bn]
def cellsE (l:List Ed):List Value:=l.flatMap edV
theorem cellsE_snoc (l:List Ed) (x:Ed):cellsE (l ++ [x])=cellsE l ++ edV x:=by simp [cellsE]
abbrev edgeV (e:Ed):Value:=.agg #[.int .i64 e.fr,.int .i64 e.dt,.int .i64 e.kd,.int .i64 e.dst,.int .i64 e.arr,.int .i64 e.op,.int .i64 e.av,.int .i64 e.an,.int .i64 e.bv,.int .i64 e.bn]
structure Le.ok (K:Le):Prop where
 look:∀ nm,K.D.atKey (keyS nm) (.lit (.int .i64 0))=.lit (.int .i64 (K.E.pl nm))
 m0:K.H0≤K.M
 b0:K.H0≤K.B1
 m1:K.M < K.B1
 g1:K.G < K.B1
 mg:K.M ≠ K.G
 vv:∃ a c,K.vv=.slice a K.E.nv c
 few:K.E.nv≤64
def lowV (K:Le) (s:Lw) (ve:Value):Array Value:=#[.map (some K.G),K.vv,.int .i64 s.tmp,K.va,.int .i64 s.pts,.int .i64 s.ext,ve]
structure Lc (K:Le) (w:World) (s:Lw) (ve:Value):Prop where
 mach:Blk w K.M (lowV K s ve) 68
 eds:w.ownsRow K.B1 40 10 ve s.eds.length (cellsE s.eds)
 map:OwnM w K.G K.gn K.D
 size:K.B1≤w.heap.size
 p0:0≤s.pts
 t0:0≤s.tmp
 t1:s.tmp≤1099511627776
theorem Lc.next {K:Le} {w w':World} {s:Lw} {ve:Value} (hk:K.ok) (h:Lc K w s ve) (hb:Below w.heap.size w w'):Lc K w' s ve where
 mach:=h.mach.next hb
 eds:=ownsRow_below h.eds hb
 map:=ownsMap_only h.map (Only.below (B:=K.M) hb) (fun e=>hk.mg e.symm)
 size:=Nat.le_trans h.size hb.size
 p0:=h.p0
 t0:=h.t0
 t1:=h.t1
theorem Lc.setM {K:Le} {w w':World} {s s':Lw} {ve ve':Value} (hk:K.ok) (h:Lc K w s ve) (ho:Only K.M w w') (hX:Blk w' K.M (lowV K s' ve') 68) (he:w.ownsRow K.B1 40 10 ve' s'.eds.length (cellsE s'.eds)) (hp:0≤s'.pts) (ht:0≤s'.tmp) (ht1:s'.tmp≤1099511627776):Lc K w' s' ve' where
 mach:=hX
 eds:=ownsRow_only he ho hk.m1
 map:=ownsMap_only h.map ho (fun e=>hk.mg e.symm)
 size:=Nat.le_trans h.size ho.size
 p0:=hp
 t0:=ht
 t1:=ht1
theorem Lc.turn {K:Le} {w w':World} {s:Lw} {ve:Value} (hk:K.ok) (h:Lc K w s ve) (hb:Below K.B1 w w') {s':Lw} {ve':Value} (he:w'.ownsRow K.B1 40 10 ve' s'.eds.length (cellsE s'.eds)) (hp:s'.pts=s.pts) (ht:s'.tmp=s.tmp) (hx:s'.ext=s.ext):Lc K (w'.setCell ⟨K.M,6,none⟩ ve') s' ve':=by
 have ho:Only K.M w' (w'.setCell ⟨K.M,6,none⟩ ve'):=(Only.refl K.M w').setCell (p:=⟨K.M,6,none⟩) rfl _
 have hX:Blk w' K.M (lowV K s ve) 68:=h.mach.below hb hk.m1
 have hX2:=hX.set 6 ve'
 have e2:(lowV K s ve).setIfInBounds 6 ve'=lowV K s' ve':=by unfold lowV;rw [hp,ht,hx];rfl
 rw [e2] at hX2
 exact
 { mach:=hX2
   eds:=ownsRow_only he ho hk.m1
   map:=by
    have h1:OwnM w' K.G K.gn K.D:=by
     obtain ⟨es,ck,hh,r⟩:=h.map
     exact ⟨es,ck,(hb.block _ hk.g1).trans hh,r⟩
    exact ownsMap_only h1 ho (fun e=>hk.mg e.symm)
   size:=Nat.le_trans h.size (Nat.le_trans hb.size ho.size)
   p0:=by rw [hp];exact h.p0
   t0:=by rw [ht];exact h.t0
   t1:=by rw [ht];exact h.t1 }
def La (K:Le) (w:World) (s:Lw) (r:Option Nat):Prop:=∃ ve,Lc K w s ve∧ve.ownBlock=r
theorem La.next {K:Le} {w w':World} {s:Lw} {r:Option Nat} (hk:K.ok) (h:La K w s r) (hb:Below w.heap.size w w'):La K w' s r:=by
 obtain ⟨ve,h,hr⟩:=h
 exact ⟨ve,h.next hk hb,hr⟩
theorem La.alloc {K:Le} {w:World} {s:Lw} {r:Option Nat} (hk:K.ok) (h:La K w s r) (o:Obj):La K (w.alloc o) s r:=h.next hk ((Below.refl _ w).alloc (Nat.le_refl _) o)
theorem La.drew {K:Le} {w:World} {s:Lw} {r:Option Nat} (hk:K.ok) (h:La K w s r):La K w.drew s r:=h.next hk (Below.refl _ w).drew
theorem La.size {K:Le} {w:World} {s:Lw} {r:Option Nat} (h:La K w s r):K.B1≤w.heap.size:=by
 obtain ⟨ve,h,_⟩:=h
 exact h.size
theorem La.row {K:Le} {w:World} {s:Lw} {r:Option Nat} (h:La K w s r):∀ g,r=some g→K.B1≤g∧g < w.heap.size:=by
 obtain ⟨ve,h,hr⟩:=h
 intro g hg
 exact h.eds.lt g (hr.trans hg)
structure Kl (K:Le) (r r':Option Nat) (w w':World):Prop where
 os:w'.os=w.os
 tape:w'.tape=w.tape
 output:w'.output=w.output
 size:w.heap.size≤w'.heap.size
 block:∀ b,b < w.heap.size→b ≠ K.M→r ≠ some b→w'.heap[b]?=w.heap[b]?
 row:r'=r ∨ ∀ g,r'=some g→w.heap.size≤g
theorem Kl.refl (K:Le) (r:Option Nat) (w:World):Kl K r r w w:=⟨rfl,rfl,rfl,Nat.le_refl _,fun _ _ _ _=>rfl,.inl rfl⟩
theorem Kl.trans {K:Le} {r0 r1 r2:Option Nat} {a b c:World} (h:Kl K r0 r1 a b) (k:Kl K r1 r2 b c):Kl K r0 r2 a c where
 os:=k.os.trans h.os
 tape:=k.tape.trans h.tape
 output:=k.output.trans h.output
 size:=Nat.le_trans h.size k.size
 block:=fun i hi h1 h4=>(k.block i (Nat.lt_of_lt_of_le hi h.size) h1 (fun e=>by
  rcases h.row with h5 | h5
  · rw [h5] at e;exact h4 e
  · have:=h5 i e;omega)).trans (h.block i hi h1 h4)
 row:=by
  rcases k.row with h2 | h2
  · rw [h2];exact h.row
  · exact .inr fun g hg=>Nat.le_trans h.size (h2 g hg)
theorem Kl.below {K:Le} {r:Option Nat} {w w':World} (h:Below w.heap.size w w'):Kl K r r w w':=⟨h.os,h.tape,h.output,h.size,fun k hk _ _=>h.block k hk,.inl rfl⟩
theorem Kl.alloc {K:Le} {r r':Option Nat} {a w:World} (h:Kl K r r' a w) (o:Obj):Kl K r r' a (w.alloc o):=h.trans (Kl.below ((Below.refl _ w).alloc (Nat.le_refl _) o))
theorem Kl.drew {K:Le} {r r':Option Nat} {a w:World} (h:Kl K r r' a w):Kl K r r' a w.drew:=h.trans (Kl.below (Below.refl _ w).drew)
theorem Kl.onlyM {K:Le} {r:Option Nat} {w w':World} (h:Only K.M w w'):Kl K r r w w':=⟨h.os,h.tape,h.output,h.size,fun k hk h1 _=>h.block k hk h1,.inl rfl⟩
theorem Kl.grown {K:Le} {r r':Option Nat} {a w w':World} (h:Kl K r r a w) (hg:w.grownBy w' r) (hr:r'=r ∨ ∀ g,r'=some g→w.heap.size≤g):Kl K r r' a w' :=
 h.trans ⟨hg.os,hg.tape,hg.output,hg.size,fun b hb _ h4=>hg.block b hb (fun e=>h4 e.symm),hr⟩
theorem Kl.one {K:Le} {r r':Option Nat} {a w w':World} {X:Nat} (h:Kl K r r' a w) (ho:Only X w w') (hX:a.heap.size≤X):Kl K r r' a w' where
 os:=ho.os.trans h.os
 tape:=ho.tape.trans h.tape
 output:=ho.output.trans h.output
 size:=Nat.le_trans h.size ho.size
 block:=fun b hb h1 h4=>(ho.block b (Nat.lt_of_lt_of_le hb h.size) (by omega)).trans (h.block b hb h1 h4)
 row:=h.row
theorem Kl.old {K:Le} {r r':Option Nat} {w w':World} {s:Lw} (hk:K.ok) (h:Kl K r r' w w') (ha:La K w s r):Below K.H0 w w' :=
 ⟨h.os,h.tape,h.output,h.size,fun k hlt=>h.block k (Nat.lt_of_lt_of_le hlt (Nat.le_trans hk.b0 ha.size)) (fun e=>by have:=hk.m0;omega) (fun e=>by have:=(ha.row k e).1;have:=hk.b0;omega)⟩
structure Tl (K:Le) (w:World) (r:Option Nat) (X:Nat) (cs:Array Value) (t:TypeId):Prop where
 blk:Blk w X cs t
 base:K.B1≤X
 row:r ≠ some X
theorem Tl.kr {K:Le} (hk:K.ok) {r r':Option Nat} {w w':World} {X:Nat} {cs:Array Value} {t:TypeId} (h:Tl K w r X cs t) (hr:Kl K r r' w w'):Tl K w' r' X cs t where
 blk:=(hr.block X h.blk.lt (fun e=>by have:=hk.m1;have:=h.base;omega) h.row).trans h.blk
 base:=h.base
 row:=by
  rcases hr.row with h1 | h1
  · rw [h1];exact h.row
  · intro e
    have h2:=h1 X e
    have h3:=h.blk.lt
    omega
theorem Tl.new {K:Le} {w:World} {s:Lw} {r:Option Nat} (ha:La K w s r) (cs:Array Value) (t:TypeId):Tl K (w.alloc (.cells cs t)) r w.heap.size cs t where
 blk:=Blk.new w cs t
 base:=ha.size
 row:=fun e=>by have:=(ha.row _ e).2;omega
theorem Tl.next {K:Le} {w w':World} {r:Option Nat} {X:Nat} {cs:Array Value} {t:TypeId} (h:Tl K w r X cs t) (hb:Below w.heap.size w w'):Tl K w' r X cs t:=⟨h.blk.next hb,h.base,h.row⟩
theorem Tl.set {K:Le} {w:World} {r:Option Nat} {X:Nat} {cs:Array Value} {t:TypeId} (h:Tl K w r X cs t) (o:Nat) (u:Value):Tl K (w.setCell ⟨X,o,none⟩ u) r X (cs.setIfInBounds o u) t:=⟨h.blk.set o u,h.base,h.row⟩
theorem La.tmp {K:Le} {w w':World} {s:Lw} {r:Option Nat} {X:Nat} (hk:K.ok) (h:La K w s r) (hX:K.B1≤X) (hr:r ≠ some X) (ho:Only X w w'):La K w' s r:=by
 obtain ⟨ve,h,he⟩:=h
 have hne:∀ b,b < K.B1→b ≠ X:=fun b hb e=>by omega
 refine ⟨ve,?_,he⟩
 exact
 { mach:=h.mach.only ho (hne _ hk.m1)
   eds:=h.eds.kept (only_grown ho) (by rw [he];cases r with | none=>exact .inl rfl | some g=>exact .inr hr)
   map:=ownsMap_only h.map ho (hne _ hk.g1)
   size:=Nat.le_trans h.size ho.size
   p0:=h.p0
   t0:=h.t0
   t1:=h.t1 }
def Lows (K:Le) (val:Value) (r:Option Nat) (w:World) (s':Lw):Ending→World→Prop:=fun e w'=>e=.returned val∧∃ r',Kl K r r' w w'∧La K w' s' r'
structure Few (s:Lw) (c:Nat):Prop where
 p:s.pts+c≤1099511627776
 e:s.eds.length+c≤1099511627776
abbrev unitT:Value:=.tuple #[]
theorem edV_len (e:Ed):(edV e).length=10:=rfl
theorem cellsE_get:∀ (l:List Ed) (i:Nat) (hi:i < l.length) (j:Nat) (u:Value),(edV l[i])[j]?=some u→(cellsE l)[i * 10+j]?=some u
 | [],i,hi,_,_,_=>by simp at hi
 | x :: r,0,_,j,u,h=>by
   have h:(edV x)[j]?=some u:=h
   have hj:=(List.getElem?_eq_some_iff.1 h).1
   rw [show (0:Nat) * 10+j=j by omega,show cellsE (x :: r)=edV x ++ cellsE r from rfl,List.getElem?_append_left hj]
   exact h
 | x :: r,i+1,hi,j,u,h=>by
   have:=cellsE_get r i (by simpa using hi) j u (by simpa using h)
   rw [show (i+1) * 10+j=(edV x).length+(i * 10+j) by rw [edV_len];omega,show cellsE (x :: r)=edV x ++ cellsE r from rfl,List.getElem?_append_right (by omega),Nat.add_sub_cancel_left]
   exact this
def EdsAt (w:World) (l:List Ed) (v:Value):Prop:=SlOf l.length (fun b o=>∀ i (hi:i < l.length) j u,(edV l[i])[j]?=some u→w.cell? ⟨b,o+(i * 10+j),none⟩=some u) v
theorem EdsAt.keep {w w':World} {l:List Ed} {v:Value} (h:EdsAt w l v) (hk:Keeps w w'):EdsAt w' l v:=SlOf.mono h fun _ _ hr i hi j u hu=>hk _ _ _ (hr i hi j u hu)
theorem own_len {w:World} {base:Nat} {e:TypeId} {size:Nat} {v:Value} {n:Nat} {xs:List Value} (h:w.ownsRow base e size v n xs):∃ a c,v=.slice a n c∧n≤c∧c≤maxLen∧(n=0 ∨ ∃ g,a=some ⟨g,0,none⟩∧base≤g∧g < w.heap.size∧∀ j u,xs[j]?=some u→w.cell? ⟨g,j,none⟩=some u):=by
 obtain ⟨hl,h2⟩:=h
 rcases h2 with ⟨rfl,rfl⟩ | ⟨g,cap,cur,rfl,h3,h4,h5,h6,h7,h8⟩
 · exact ⟨none,0,rfl,Nat.le_refl _,Nat.zero_le _,.inl rfl⟩
 · have ho:w.ownsRow base e size (.slice (some ⟨g,0,none⟩) n cap) n xs:=⟨hl,.inr ⟨g,cap,cur,rfl,h3,h4,h5,h6,h7,h8⟩⟩
   refine ⟨_,cap,rfl,h5,h6,.inr ⟨g,rfl,h3,(ho.lt g rfl).2,fun j u hu=>?_⟩⟩
   have:=ho.cells (g:=g) rfl j u hu
   rw [add_none,Nat.zero_add] at this
   exact this
theorem EdsAt.own {w:World} {base:Nat} {l:List Ed} {v:Value} (h:w.ownsRow base 40 10 v l.length (cellsE l)):EdsAt w l v:=by
 obtain ⟨a,c,h1,h2,h3,h4⟩:=own_len h
 refine ⟨a,c,h1,h2,h3,h4.imp id ?_⟩
 rintro ⟨g,h5,-,-,h6⟩
 exact ⟨g,0,h5,fun i hi j u hu=>by rw [Nat.zero_add];exact h6 _ _ (cellsE_get l i hi j u hu)⟩
structure GrIn (w:World) (g:Gf) (vv va ve:Value):Prop where
 vs:StrsIn w g.vs vv
 ar:SlIn w .D g.ar va
 es:EdsAt w g.es ve
 nv:g.vs.length≤maxLen
theorem GrIn.next {w w':World} {g:Gf} {vv va ve:Value} (h:GrIn w g vv va ve) (hb:Below w.heap.size w w'):GrIn w' g vv va ve:=⟨h.vs.keep hb,h.ar.keep (keeps_below hb),h.es.keep (keeps_below hb),h.nv⟩
theorem eds_at {w:World} {l:List Ed} {b o:Nat} (h:∀ i (hi:i < l.length) j u,(edV l[i])[j]?=some u→w.cell? ⟨b,o+(i * 10+j),none⟩=some u) (i:Nat) (hi:i < l.length) :
    w.cell? ⟨b,o+i * 10,none⟩=some (.int .i64 l[i].fr)∧w.cell? ⟨b,o+i * 10+1,none⟩=some (.int .i64 l[i].dt)∧w.cell? ⟨b,o+i * 10+2,none⟩=some (.int .i64 l[i].kd)∧w.cell? ⟨b,o+i * 10+3,none⟩=some (.int .i64 l[i].dst)∧w.cell? ⟨b,o+i * 10+4,none⟩=some (.int .i64 l[i].arr)∧w.cell? ⟨b,o+i * 10+5,none⟩=some (.int .i64 l[i].op)∧w.cell? ⟨b,o+i * 10+6,none⟩=some (.int .i64 l[i].av)∧w.cell? ⟨b,o+i * 10+7,none⟩=some (.int .i64 l[i].an)∧w.cell? ⟨b,o+i * 10+8,none⟩=some (.int .i64 l[i].bv)∧w.cell? ⟨b,o+i * 10+9,none⟩=some (.int .i64 l[i].bn):=by
 have k:=fun j u hu=>h i hi j u hu
 exact ⟨k 0 _ rfl,k 1 _ rfl,k 2 _ rfl,k 3 _ rfl,k 4 _ rfl,k 5 _ rfl,k 6 _ rfl,k 7 _ rfl,k 8 _ rfl,k 9 _ rfl⟩
def cellsN (l:List Nat):List Value:=l.map fun (x:Nat)=>Value.int .i64 (x:Int)
theorem cellsN_snoc (l:List Nat) (x:Nat):cellsN (l ++ [x])=cellsN l ++ [.int .i64 (x:Int)]:=by simp [cellsN]
theorem cellsN_at (l:List Nat) (i:Nat) (h:i < l.length):(cellsN l)[i]?=some (.int .i64 (l[i]:Int)):=by simp [cellsN,h]
structure RwIn (w:World) (L n:Nat) (f:Nat→List Nat) (vs:Nat→Value):Prop where
 row:w.rowIs L 113 n vs
 own:∀ p,p < n→w.ownsRow (L+1) 3 1 (vs p) (f p).length (cellsN (f p))
 apart:∀ p q,p < n→q < n→p ≠ q→∀ g,(vs p).ownBlock=some g→(vs q).ownBlock ≠ some g
theorem RwIn.next {w w':World} {L n:Nat} {f:Nat→List Nat} {vs:Nat→Value} (h:RwIn w L n f vs) (hb:∀ b,L≤b→b < w.heap.size→w'.heap[b]?=w.heap[b]?):RwIn w' L n f vs where
 row:=h.row.of_block (hb L (Nat.le_refl _) h.row.lt)
 own:=fun p hp=>by
  refine ⟨(h.own p hp).1,?_⟩
  rcases (h.own p hp).2 with hn | ⟨g,cap,cur,hv,hbs,hg,rest⟩
  · exact .inl hn
  · exact .inr ⟨g,cap,cur,hv,hbs,(hb g (by omega) (Array.getElem?_eq_some_iff.1 hg).1).trans hg,rest⟩
 apart:=h.apart
theorem RwIn.below {w w':World} {L n:Nat} {f:Nat→List Nat} {vs:Nat→Value} (h:RwIn w L n f vs) (hb:Below w.heap.size w w'):RwIn w' L n f vs:=h.next fun b _ hlt=>hb.block b hlt
theorem RwIn.congr {w:World} {L n:Nat} {f f':Nat→List Nat} {vs:Nat→Value} (h:RwIn w L n f vs) (e:∀ p,p < n→f p=f' p):RwIn w L n f' vs:=⟨h.row,fun p hp=>e p hp ▸ h.own p hp,h.apart⟩
theorem RwIn.at {w:World} {L n:Nat} {f:Nat→List Nat} {vs:Nat→Value} (h:RwIn w L n f vs) (p:Nat) (hp:p < n):∃ a c,vs p=.slice a (f p).length c∧(f p).length≤c∧c≤maxLen∧w.cell? ⟨L,p,none⟩=some (.slice a (f p).length c)∧((f p).length=0 ∨ ∃ g,a=some ⟨g,0,none⟩∧L+1≤g∧g < w.heap.size∧∀ i (hi:i < (f p).length),w.cell? ⟨g,i,none⟩=some (.int .i64 ((f p)[i]:Int))):=by
 obtain ⟨a,c,h1,h2,h3,h4⟩:=own_len (h.own p hp)
 have hc:=h.row.cell hp
 rw [h1] at hc
 exact ⟨a,c,h1,h2,h3,hc,h4.imp id fun ⟨g,h5,h6,h7,h8⟩=>⟨g,h5,h6,h7,fun i hi=>h8 i _ (cellsN_at _ i hi)⟩⟩
theorem RwIn.push {w w1 w2:World} {L n:Nat} {f:Nat→List Nat} {vs:Nat→Value} (h:RwIn w L n f vs) (h1:Below w.heap.size w w1) {p x:Nat} (hp:p < n) {v':Value} (hown:w2.ownsRow (L+1) 3 1 v' ((f p).length+1) (cellsN (f p) ++ [.int .i64 (x:Int)])) (hg:w1.grownBy w2 (vs p).ownBlock) {gg:Nat} (hv:v'.ownBlock=some gg) (hat:(vs p).ownBlock=some gg ∨ gg=w1.heap.size) :
    RwIn (w2.setCell ⟨L,p,none⟩ v') L n (fun q=>if q=p then f p ++ [x] else f q) (fun q=>if q=p then v' else vs q):=by
 have hLlt:=h.row.lt
 have hLne:(vs p).ownBlock ≠ some L:=fun e=>by have:=((h.own p hp).lt L e).1;omega
 have hL2:w2.rowIs L 113 n vs:=(h.row.of_block (h1.block L hLlt)).of_block (hg.block L (Nat.lt_of_lt_of_le hLlt h1.size) (fun e=>hLne e.symm))
 have hset:∀ {v:Value} {m:Nat} {xs:List Value},w2.ownsRow (L+1) 3 1 v m xs→(w2.setCell ⟨L,p,none⟩ v').ownsRow (L+1) 3 1 v m xs:=fun ho=>ownsRow_setCell_below ho (show L < L+1 by omega) _
 refine ⟨hL2.set p v',fun q hq=>?_,fun a b ha hb hab g=>?_⟩
 · by_cases e:q=p
   · subst e
     simp only [if_true]
     rw [List.length_append,cellsN_snoc]
     exact hset hown
   · simp only [if_neg e]
     have h2:=ownsRow_below (h.own q hq) h1
     refine hset (h2.kept hg ?_)
     cases hb:(vs q).ownBlock with
     | none=>exact .inl rfl
     | some g=>exact .inr fun e2=>h.apart q p hq hp e g hb e2.symm
 · have hfresh:∀ q,q < n→q ≠ p→(vs q).ownBlock ≠ some gg:=fun q hq hqp e=>by
    rcases hat with h2 | h2
    · exact h.apart q p hq hp hqp gg e h2
    · have h3:=((h.own q hq).lt gg e).2
      have h4:=h1.size
      omega
   by_cases ea:a=p
   · subst ea
     have eb:b ≠ a:=fun e=>hab e.symm
     simp only [if_true,if_neg eb]
     intro h2
     rw [hv] at h2
     cases h2
     exact hfresh b hb eb
   · by_cases eb:b=p
     · subst eb
       simp only [if_true,if_neg ea]
       intro h2 h3
       rw [hv] at h3
       cases h3
       exact hfresh a ha ea h2
     · simp only [if_neg ea,if_neg eb]
       exact h.apart a b ha hb hab g
theorem RwIn.made (w:World) (n:Nat):RwIn (w.alloc (.cells (madeCells #[.slice none 0 0] n) 113)) w.heap.size n (fun _=>[]) (fun _=>.slice none 0 0):=⟨World.rowIs_made w _ n _,fun _ _=>World.ownsRow_nil _ _ _ _,fun _ _ _ _ _ g h=>by simp [Value.ownBlock] at h⟩
set_option maxRecDepth 100000 in
theorem cnum_any (n:Int) (w:World):Calls Tryz.prog 167 #[.int .i64 n] w (fun e w'=>e=.returned (.agg #[.int .i64 (-1),.int .i64 n])∧Below w.heap.size w w'):=by
 go_enter Tryz.func167,Tryz.ntmps167
 go_wp2_with fail
 refine bodyPost_ret (results_cell_row rfl _ _ w.heap.size _ #[.int .i64 (-1),.int .i64 n] _ _ rfl (heap_alloc_new w _) rfl rfl (by kernel_rfl)) rfl ?_
 exact ⟨rfl,(Below.refl w.heap.size w).alloc (Nat.le_refl _) _⟩
def put10 (w:World) (Y:Nat) (v0 v1 v2 v3 v4 v5 v6 v7 v8 v9:Value):World:=(((((((((w.setCell ⟨Y,0,none⟩ v0).setCell ⟨Y,1,none⟩ v1).setCell ⟨Y,2,none⟩ v2).setCell ⟨Y,3,none⟩ v3).setCell ⟨Y,4,none⟩ v4).setCell ⟨Y,5,none⟩ v5).setCell ⟨Y,6,none⟩ v6).setCell ⟨Y,7,none⟩ v7).setCell ⟨Y,8,none⟩ v8).setCell ⟨Y,9,none⟩ v9
theorem put10_blk {w:World} {Y:Nat} {a0 a1 a2 a3 a4 a5 a6 a7 a8 a9:Value} {t:TypeId} (h:Blk w Y #[a0,a1,a2,a3,a4,a5,a6,a7,a8,a9] t) (v0 v1 v2 v3 v4 v5 v6 v7 v8 v9:Value):Blk (put10 w Y v0 v1 v2 v3 v4 v5 v6 v7 v8 v9) Y #[v0,v1,v2,v3,v4,v5,v6,v7,v8,v9] t:=by
 have h0:Blk (w.setCell ⟨Y,0,none⟩ v0) Y #[v0,a1,a2,a3,a4,a5,a6,a7,a8,a9] t:=h.set 0 v0
 have h1:Blk ((w.setCell ⟨Y,0,none⟩ v0).setCell ⟨Y,1,none⟩ v1) Y #[v0,v1,a2,a3,a4,a5,a6,a7,a8,a9] t:=h0.set 1 v1
 have h2:Blk (((w.setCell ⟨Y,0,none⟩ v0).setCell ⟨Y,1,none⟩ v1).setCell ⟨Y,2,none⟩ v2) Y #[v0,v1,v2,a3,a4,a5,a6,a7,a8,a9] t:=h1.set 2 v2
 have h3:Blk ((((w.setCell ⟨Y,0,none⟩ v0).setCell ⟨Y,1,none⟩ v1).setCell ⟨Y,2,none⟩ v2).setCell ⟨Y,3,none⟩ v3) Y #[v0,v1,v2,v3,a4,a5,a6,a7,a8,a9] t:=h2.set 3 v3
 have h4:Blk (((((w.setCell ⟨Y,0,none⟩ v0).setCell ⟨Y,1,none⟩ v1).setCell ⟨Y,2,none⟩ v2).setCell ⟨Y,3,none⟩ v3).setCell ⟨Y,4,none⟩ v4) Y #[v0,v1,v2,v3,v4,a5,a6,a7,a8,a9] t:=h3.set 4 v4
 have h5:Blk ((((((w.setCell ⟨Y,0,none⟩ v0).setCell ⟨Y,1,none⟩ v1).setCell ⟨Y,2,none⟩ v2).setCell ⟨Y,3,none⟩ v3).setCell ⟨Y,4,none⟩ v4).setCell ⟨Y,5,none⟩ v5) Y #[v0,v1,v2,v3,v4,v5,a6,a7,a8,a9] t:=h4.set 5 v5
 have h6:Blk (((((((w.setCell ⟨Y,0,none⟩ v0).setCell ⟨Y,1,none⟩ v1).setCell ⟨Y,2,none⟩ v2).setCell ⟨Y,3,none⟩ v3).setCell ⟨Y,4,none⟩ v4).setCell ⟨Y,5,none⟩ v5).setCell ⟨Y,6,none⟩ v6) Y #[v0,v1,v2,v3,v4,v5,v6,a7,a8,a9] t:=h5.set 6 v6
 have h7:Blk ((((((((w.setCell ⟨Y,0,none⟩ v0).setCell ⟨Y,1,none⟩ v1).setCell ⟨Y,2,none⟩ v2).setCell ⟨Y,3,none⟩ v3).setCell ⟨Y,4,none⟩ v4).setCell ⟨Y,5,none⟩ v5).setCell ⟨Y,6,none⟩ v6).setCell ⟨Y,7,none⟩ v7) Y #[v0,v1,v2,v3,v4,v5,v6,v7,a8,a9] t:=h6.set 7 v7
 have h8:Blk (((((((((w.setCell ⟨Y,0,none⟩ v0).setCell ⟨Y,1,none⟩ v1).setCell ⟨Y,2,none⟩ v2).setCell ⟨Y,3,none⟩ v3).setCell ⟨Y,4,none⟩ v4).setCell ⟨Y,5,none⟩ v5).setCell ⟨Y,6,none⟩ v6).setCell ⟨Y,7,none⟩ v7).setCell ⟨Y,8,none⟩ v8) Y #[v0,v1,v2,v3,v4,v5,v6,v7,v8,a9] t:=h7.set 8 v8
 have h9:Blk ((((((((((w.setCell ⟨Y,0,none⟩ v0).setCell ⟨Y,1,none⟩ v1).setCell ⟨Y,2,none⟩ v2).setCell ⟨Y,3,none⟩ v3).setCell ⟨Y,4,none⟩ v4).setCell ⟨Y,5,none⟩ v5).setCell ⟨Y,6,none⟩ v6).setCell ⟨Y,7,none⟩ v7).setCell ⟨Y,8,none⟩ v8).setCell ⟨Y,9,none⟩ v9) Y #[v0,v1,v2,v3,v4,v5,v6,v7,v8,v9] t:=h8.set 9 v9
 exact h9
theorem put10_only (w:World) (Y:Nat) (v0 v1 v2 v3 v4 v5 v6 v7 v8 v9:Value):Only Y w (put10 w Y v0 v1 v2 v3 v4 v5 v6 v7 v8 v9):=((((((((((Only.refl Y w).setCell (p:=⟨Y,0,none⟩) rfl _).setCell (p:=⟨Y,1,none⟩) rfl _).setCell (p:=⟨Y,2,none⟩) rfl _).setCell (p:=⟨Y,3,none⟩) rfl _).setCell (p:=⟨Y,4,none⟩) rfl _).setCell (p:=⟨Y,5,none⟩) rfl _).setCell (p:=⟨Y,6,none⟩) rfl _).setCell (p:=⟨Y,7,none⟩) rfl _).setCell (p:=⟨Y,8,none⟩) rfl _).setCell (p:=⟨Y,9,none⟩) rfl _
set_option maxRecDepth 100000 in
theorem cedge_any (f t k:Int) (w:World):Calls Tryz.prog 150 #[.int .i64 f,.int .i64 t,.int .i64 k] w (fun e w'=>e=.returned (edgeV (edgeE f t k))∧Below w.heap.size w w'):=by
 obtain ⟨W1,hW1⟩:∃ W1,w.alloc (.cells #[.int .i64 0,.int .i64 0,.int .i64 0,.int .i64 0,.int .i64 0,.int .i64 0,.int .i64 0,.int .i64 0,.int .i64 0,.int .i64 0] 40)=W1:=⟨_,rfl⟩
 have hx1:Blk W1 w.heap.size #[.int .i64 0,.int .i64 0,.int .i64 0,.int .i64 0,.int .i64 0,.int .i64 0,.int .i64 0,.int .i64 0,.int .i64 0,.int .i64 0] 40:=by rw [← hW1];exact Blk.new w _ _
 have hb1:Below w.heap.size w W1:=by rw [← hW1];exact (Below.refl _ w).alloc (Nat.le_refl _) _
 obtain ⟨X,hX⟩:∃ X,w.heap.size=X:=⟨_,rfl⟩
 have HN:=fun w=>cnum_any 0 w
 rw [hX] at hx1
 have HX:=Lib.hid (And.intro hx1 hb1)
 have HW1:=Lib.hid hW1
 have HXX:=Lib.hid hX
 clear hx1 hb1 hW1 hX
 go_enter Tryz.func150,Tryz.ntmps150
 go_upto_region 1 with fail
 rw [HW1.out,HXX.out]
 go_wp2_with (first | (go_at_call 167;(with_reducible refine (HN _).mono ?_);rintro e w2 ⟨rfl,hb2⟩;have HX2:=Lib.hid (And.intro (HX.out.1.next hb2) (HX.out.2.trans (hb2.mono HX.out.2.size)));clear HX;rename_i HX2;have HX:=HX2;clear HX2;have xc:=HX.out.1.cell;have xf:=HX.out.1.free;clear hb2) | fail)
 refine bodyPost_ret (results_cell_row rfl _ _ X _ _ _ _ rfl (put10_blk HX.out.1 _ _ _ _ _ _ _ _ _ _) rfl rfl (by kernel_rfl)) rfl ?_
 exact ⟨rfl,HX.out.2.trans ((put10_only _ _ _ _ _ _ _ _ _ _ _ _).old (by have:=HXX.out;omega) HX.out.2.size)⟩
set_option maxRecDepth 100000 in
theorem fresh_any (K:Le) (hk:K.ok) (s:Lw) (r:Option Nat) (w:World) (h:La K w s r) (hf:Few s 1) :
    Calls Tryz.prog 37 #[.pointer (some ⟨K.M,0,none⟩)] w (Lows K (.int .i64 s.pts) r w s.fresh):=by
 obtain ⟨ve,hm,he⟩:=h
 have c4:w.cell? ⟨K.M,4,none⟩=some (.int .i64 s.pts):=hm.mach.cell 4
 have z4:w.frozen? ⟨K.M,4,none⟩=false:=hm.mach.free 4
 have hp:=hm.p0
 have hp1:=hf.p
 have hb:s.pts+1≤9223372036854775807:=by omega
 have hb0:-9223372036854775808≤s.pts+1:=by omega
 obtain ⟨T,hT⟩:∃ T:Int,s.pts=T:=⟨_,rfl⟩
 rw [hT] at c4 hb hb0 hp ⊢
 have hb1:-9223372036854775808≤T:=by omega
 have HH:=Lib.hid (And.intro hk (And.intro hm (And.intro hT (And.intro he hp))))
 clear hk hm hT he hf hp1 hp
 go_enter Tryz.func37,Tryz.ntmps37
 go_wp2_with fail
 go_ret
 obtain ⟨hk,hm,hT,he,hp⟩:=HH.out
 have ho:Only K.M w (w.setCell ⟨K.M,4,none⟩ (.int .i64 (T+1))):=(Only.refl K.M w).setCell (p:=⟨K.M,4,none⟩) rfl _
 have hX2:=hm.mach.set 4 (.int .i64 (T+1))
 have e2:(lowV K s ve).setIfInBounds 4 (.int .i64 (T+1))=lowV K s.fresh ve:=by unfold lowV;rw [← hT];rfl
 rw [e2] at hX2
 exact ⟨rfl,r,Kl.onlyM ho,ve,hm.setM hk ho hX2 hm.eds (by show 0≤s.pts+1;omega) hm.t0 hm.t1,he⟩
set_option maxRecDepth 100000 in
theorem temporary_any (K:Le) (hk:K.ok) (s:Lw) (r:Option Nat) (d:Int) (hd0:0≤d) (hd1:d+1≤1099511627776) (w:World) (h:La K w s r) :
    Calls Tryz.prog 203 #[.pointer (some ⟨K.M,0,none⟩),.int .i64 d] w (Lows K (.agg #[.int .i64 ((K.E.nv:Int)+d),.int .i64 0]) r w (s.temp d)):=by
 obtain ⟨W1,hW1⟩:∃ W1,w.alloc (.cells #[.int .i64 0,.int .i64 0] 38)=W1:=⟨_,rfl⟩
 have ht:=Tl.new h #[.int .i64 0,.int .i64 0] 38
 have h1:=h.alloc hk (.cells #[.int .i64 0,.int .i64 0] 38)
 have hkr:Kl K r r w W1:=by rw [← hW1];exact (Kl.refl K r w).alloc _
 rw [hW1] at ht h1
 obtain ⟨X,hX⟩:∃ X,w.heap.size=X:=⟨_,rfl⟩
 rw [hX] at ht
 obtain ⟨ve,hm,he⟩:=h1
 have c2:W1.cell? ⟨K.M,2,none⟩=some (.int .i64 s.tmp):=hm.mach.cell 2
 have z2:W1.frozen? ⟨K.M,2,none⟩=false:=hm.mach.free 2
 obtain ⟨va,vc,hvv⟩:=hk.vv
 have c1:W1.cell? ⟨K.M,1,none⟩=some (.slice va K.E.nv vc):=by rw [← hvv];exact hm.mach.cell 1
 have hnv:=hk.few
 have hb:d+1≤9223372036854775807:=by omega
 have hb0:-9223372036854775808≤d+1:=by omega
 have hb2:(K.E.nv:Int)+d≤9223372036854775807:=by omega
 have hb3:-9223372036854775808≤(K.E.nv:Int)+d:=by omega
 have ht0:=hm.t0
 have ht1:=hm.t1
 have xc:=ht.blk.cell
 have xf:=ht.blk.free
 obtain ⟨NV,hNV⟩:∃ x:Nat,K.E.nv=x:=⟨_,rfl⟩
 rw [hNV] at c1 hb2 hb3 ⊢
 obtain ⟨T,hT⟩:∃ x:Int,s.tmp=x:=⟨_,rfl⟩
 rw [hT] at c2
 have HH:=Lib.hid (And.intro hk (And.intro hm (And.intro he (And.intro hkr (And.intro ht (And.intro hT (And.intro hNV (And.intro hd0 hd1))))))))
 have HW1:=Lib.hid hW1
 have HX:=Lib.hid hX
 clear hk hm he hkr ht hT hNV hd0 hd1 hW1 hX hvv hnv ht0 ht1 h
 go_enter Tryz.func203,Tryz.ntmps203
 go_upto_region 1 with fail
 rw [HW1.out,HX.out]
 go_wp2_with fail
 obtain ⟨hk,hm,he,hkr,ht,hT,hNV,hd0,hd1⟩:=HH.out
 have ho:Only K.M W1 (W1.setCell ⟨K.M,2,none⟩ (.int .i64 (max T (d+1)))):=(Only.refl K.M W1).setCell (p:=⟨K.M,2,none⟩) rfl _
 have hX2:=hm.mach.set 2 (.int .i64 (max T (d+1)))
 have e2:(lowV K s ve).setIfInBounds 2 (.int .i64 (max T (d+1)))=lowV K (s.temp d) ve:=by unfold lowV;rw [← hT];rfl
 rw [e2] at hX2
 have ht0:=hm.t0
 have ht1:=hm.t1
 have hm2:=hm.setM (s':=s.temp d) hk ho hX2 hm.eds hm.p0 (by show 0≤max s.tmp (d+1);omega) (by show max s.tmp (d+1)≤_;omega)
 have hkr2:=hkr.trans (Kl.onlyM (r:=r) ho)
 have ht2:=ht.kr hk (Kl.onlyM (r:=r) ho)
 have hw2:Only X _ (((W1.setCell ⟨K.M,2,none⟩ (.int .i64 (max T (d+1)))).setCell ⟨X,0,none⟩ (.int .i64 ((NV:Int)+d))).setCell ⟨X,1,none⟩ (.int .i64 0)):=((Only.refl X _).setCell (p:=⟨X,0,none⟩) rfl _).setCell (p:=⟨X,1,none⟩) rfl _
 have hblk:=(ht2.blk.set 0 (.int .i64 ((NV:Int)+d))).set 1 (.int .i64 0)
 have hblk2:Blk _ X #[.int .i64 ((NV:Int)+d),.int .i64 0] 38:=hblk
 refine bodyPost_ret (results_cell_row rfl _ _ X _ _ _ _ rfl hblk2 rfl rfl (by kernel_rfl)) rfl ?_
 have hla:La K _ (s.temp d) r:=⟨ve,hm2,he⟩
 have hX':=HX.out
 exact ⟨rfl,r,Kl.one hkr2 hw2 (by rw [← hX'];exact Nat.le_refl _) ,hla.tmp hk ht2.base ht2.row hw2⟩
set_option maxRecDepth 100000 in
theorem isTemp_any (K:Le) (hk:K.ok) (s:Lw) (r:Option Nat) (v n:Int) (w:World) (h:La K w s r) :
    Calls Tryz.prog 183 #[.pointer (some ⟨K.M,0,none⟩),.agg #[.int .i64 v,.int .i64 n]] w (fun e w'=>e=.returned (.bool (decide ((K.E.nv:Int)≤v)))∧Below w.heap.size w w'):=by
 obtain ⟨W1,hW1⟩:∃ W1,w.alloc (.cells #[.int .i64 v,.int .i64 n] 38)=W1:=⟨_,rfl⟩
 have ht:=Tl.new h #[.int .i64 v,.int .i64 n] 38
 have h1:=h.alloc hk (.cells #[.int .i64 v,.int .i64 n] 38)
 have hb1:Below w.heap.size w W1:=by rw [← hW1];exact (Below.refl _ w).alloc (Nat.le_refl _) _
 rw [hW1] at ht h1
 obtain ⟨X,hX⟩:∃ X,w.heap.size=X:=⟨_,rfl⟩
 rw [hX] at ht
 obtain ⟨ve,hm,he⟩:=h1
 obtain ⟨va,vc,hvv⟩:=hk.vv
 have c1:W1.cell? ⟨K.M,1,none⟩=some (.slice va K.E.nv vc):=by rw [← hvv];exact hm.mach.cell 1
 have x0:W1.cell? ⟨X,0,none⟩=some (.int .i64 v):=ht.blk.cell 0
 have HB:=Lib.hid hb1
 have HW1:=Lib.hid hW1
 have HX:=Lib.hid hX
 obtain ⟨NV,hNV⟩:∃ x:Nat,K.E.nv=x:=⟨_,rfl⟩
 rw [hNV] at c1 ⊢
 clear hk hm he ht hW1 hX hvv h hb1 hNV
 go_enter Tryz.func183,Tryz.ntmps183
 go_upto_region 1 with fail
 rw [HW1.out,HX.out]
 go_region
 all_goals
  go_wp2_with fail
  go_ret
  exact ⟨rfl,HB.out.drew⟩
set_option maxRecDepth 100000 in
theorem beginning_any (K:Le) (hk:K.ok) (s:Lw) (r:Option Nat) (l:List Nd) (v:Value) (t:Int) (w0 w:World) (hl:SlIn w0 .S l v) (h:La K w s r) (hf:Few s 1) :
    Calls Tryz.prog 38 #[.pointer (some ⟨K.M,0,none⟩),v,.int .i64 t] w (Lows K (.int .i64 (begP l.isEmpty t s)) r w (begS l.isEmpty s)):=by
 have HF:=Lib.hid (fresh_any K hk s r w h hf)
 obtain ⟨a,c,rfl,-⟩:=hl
 have HH:=Lib.hid (And.intro (Kl.refl K r w) h)
 clear h hk hf
 cases l with
 | nil =>
   go_enter Tryz.func38,Tryz.ntmps38
   go_wp2_with fail
   go_ret
   exact ⟨rfl,r,HH.out⟩
 | cons x l =>
   obtain ⟨L,hL⟩:∃ n,(x :: l).length=n:=⟨_,rfl⟩
   have hL0:0 < L:=by rw [← hL];simp
   have hl2:((L:Int) == 0)=false:=by simp;omega
   rw [hL]
   go_enter Tryz.func38,Tryz.ntmps38
   go_wp2_with (first | (go_at_call 37;(with_reducible refine HF.out.mono ?_);rintro e w2 ⟨rfl,r2,hk2,h2⟩) | fail)
   go_ret
   exact ⟨rfl,r2,hk2,h2⟩
theorem info_edge:(Tryz.prog.info? 40).map (fun i=>(i.zero,i.size,i.bytes))=some (some (.agg #[.int .i64 0,.int .i64 0,.int .i64 0,.int .i64 0,.int .i64 0,.int .i64 0,.int .i64 0,.int .i64 0,.int .i64 0,.int .i64 0]),10,80):=by kernel_rfl
theorem edge_one (e:Ed):∀ u ∈ edV e,u.oneCell'=true:=by
 intro u hu
 simp only [edV,List.mem_cons,List.not_mem_nil,or_false] at hu
 rcases hu with rfl | rfl | rfl | rfl | rfl | rfl | rfl | rfl | rfl | rfl <;> rfl
set_option maxRecDepth 100000 in
theorem cadd_any (K:Le) (hk:K.ok) (s:Lw) (r:Option Nat) (x:Ed) (w:World) (h:La K w s r) (hf:Few s 1) :
    Calls Tryz.prog 151 #[.pointer (some ⟨K.M,0,none⟩),edgeV x] w (Lows K unitT r w (s.add x)):=by
 obtain ⟨W1,hW1⟩:∃ W1,w.alloc (.cells #[.int .i64 x.fr,.int .i64 x.dt,.int .i64 x.kd,.int .i64 x.dst,.int .i64 x.arr,.int .i64 x.op,.int .i64 x.av,.int .i64 x.an,.int .i64 x.bv,.int .i64 x.bn] 40)=W1:=⟨_,rfl⟩
 have ht:=Tl.new h #[.int .i64 x.fr,.int .i64 x.dt,.int .i64 x.kd,.int .i64 x.dst,.int .i64 x.arr,.int .i64 x.op,.int .i64 x.av,.int .i64 x.an,.int .i64 x.bv,.int .i64 x.bn] 40
 have h1:=h.alloc hk (.cells #[.int .i64 x.fr,.int .i64 x.dt,.int .i64 x.kd,.int .i64 x.dst,.int .i64 x.arr,.int .i64 x.op,.int .i64 x.av,.int .i64 x.an,.int .i64 x.bv,.int .i64 x.bn] 40)
 have hkr:Kl K r r w W1:=by rw [← hW1];exact (Kl.refl K r w).alloc _
 rw [hW1] at ht h1
 obtain ⟨X,hX⟩:∃ X,w.heap.size=X:=⟨_,rfl⟩
 rw [hX] at ht
 have hB1:=h1.size
 obtain ⟨ve,hm,he⟩:=h1
 have c6:W1.cell? ⟨K.M,6,none⟩=some ve:=hm.mach.cell 6
 have z6:W1.frozen? ⟨K.M,6,none⟩=false:=hm.mach.free 6
 have y6:(W1.alloc (.cells #[.int .i64 x.fr,.int .i64 x.dt,.int .i64 x.kd,.int .i64 x.dst,.int .i64 x.arr,.int .i64 x.op,.int .i64 x.av,.int .i64 x.an,.int .i64 x.bv,.int .i64 x.bn] 40)).cell? ⟨K.M,6,none⟩=some ve:=(hm.mach.alloc _).cell 6
 have x0:W1.cell? ⟨X,0,none⟩=some (.int .i64 x.fr):=ht.blk.cell 0
 have x1:W1.cell? ⟨X,1,none⟩=some (.int .i64 x.dt):=ht.blk.cell 1
 have x2:W1.cell? ⟨X,2,none⟩=some (.int .i64 x.kd):=ht.blk.cell 2
 have x3:W1.cell? ⟨X,3,none⟩=some (.int .i64 x.dst):=ht.blk.cell 3
 have x4:W1.cell? ⟨X,4,none⟩=some (.int .i64 x.arr):=ht.blk.cell 4
 have x5:W1.cell? ⟨X,5,none⟩=some (.int .i64 x.op):=ht.blk.cell 5
 have x6:W1.cell? ⟨X,6,none⟩=some (.int .i64 x.av):=ht.blk.cell 6
 have x7:W1.cell? ⟨X,7,none⟩=some (.int .i64 x.an):=ht.blk.cell 7
 have x8:W1.cell? ⟨X,8,none⟩=some (.int .i64 x.bv):=ht.blk.cell 8
 have x9:W1.cell? ⟨X,9,none⟩=some (.int .i64 x.bn):=ht.blk.cell 9
 obtain ⟨i0,hi0,hz0,hz1,hz2⟩:=info_parts info_edge
 have hfe:=hf.e
 have hl1:s.eds.length+1≤1099511627776:=hfe
 obtain ⟨N,hN⟩:∃ N,s.eds.length=N:=⟨_,rfl⟩
 have hev:=hm.eds
 rw [hN] at hev hl1
 obtain ⟨CS,hCS⟩:∃ C,cellsE s.eds=C:=⟨_,rfl⟩
 rw [hCS] at hev
 have HI0:=Lib.hid hi0;clear hi0
 have HZ0:=Lib.hid hz0;clear hz0
 have HZ1:=Lib.hid hz1;clear hz1
 have HZ2:=Lib.hid hz2;clear hz2
 have HEV:=Lib.hid hev;clear hev
 have HM:=Lib.hid (And.intro hk (And.intro hm (And.intro he (And.intro hkr (And.intro hN (And.intro hCS (edge_one x)))))))
 clear hm he hkr ht h hN hCS hf hfe
 have HW1:=Lib.hid hW1;clear hW1
 have HX:=Lib.hid hX;clear hX
 go_enter Tryz.func151,Tryz.ntmps151
 go_upto_region 1 with fail
 rw [HW1.out,HX.out]
 go_region_law
  (refine step_append_lies _ (by rfl) _ _ _ (by rfl) K.B1 40 i0 _ 10 80 Tryz.underlying28 HI0.out HZ0.out HZ1.out HZ2.out rfl (by omega) ve N CS (by rfl) (HEV.out.drew.alloc _) ⟨W1.heap.size,0,none⟩ 1 1 [.int .i64 x.fr,.int .i64 x.dt,.int .i64 x.kd,.int .i64 x.dst,.int .i64 x.arr,.int .i64 x.op,.int .i64 x.av,.int .i64 x.an,.int .i64 x.bv,.int .i64 x.bn] (by rfl) (by rfl) (World.news_of_block (cs:=#[.int .i64 x.fr,.int .i64 x.dt,.int .i64 x.kd,.int .i64 x.dst,.int .i64 x.arr,.int .i64 x.op,.int .i64 x.av,.int .i64 x.an,.int .i64 x.bv,.int .i64 x.bn]) (t:=40) (fr:=(0,0)) (heap_alloc_new W1.drew _)) HM.out.2.2.2.2.2.2 (by omega) (by unfold maxLen;omega) (by omega) (by simp <;> omega) (W1.heap.size+1) (by simp) ?_
   intro gg cap w2 hown2 hgrow hat hlt2
   have q6:w2.cell? ⟨K.M,6,none⟩=some ve:=(blk_grown ((show Blk W1.drew K.M _ _ from HM.out.2.1.mach).alloc _) hgrow (fun e=>by have:=HEV.out.lt _ e;have:=HM.out.1.m1;omega)).cell 6
   have z7:w2.frozen? ⟨K.M,6,none⟩=false:=(blk_grown ((show Blk W1.drew K.M _ _ from HM.out.2.1.mach).alloc _) hgrow (fun e=>by have:=HEV.out.lt _ e;have:=HM.out.1.m1;omega)).free 6)
 all_goals
  go_wp2_with fail
  go_end0
  obtain ⟨hk,hm,he,hkr,hN,hCS,-⟩:=HM.out
  have hgW:=(World.size_alloc W1.drew (.cells #[.int .i64 x.fr,.int .i64 x.dt,.int .i64 x.kd,.int .i64 x.dst,.int .i64 x.arr,.int .i64 x.op,.int .i64 x.av,.int .i64 x.an,.int .i64 x.bv,.int .i64 x.bn] 40))
  have hb2:Below K.B1 W1 w2:=below_grown ((Below.refl K.B1 W1).drew.alloc hB1 _) (by rw [hgW];exact Nat.le_succ_of_le hB1) hgrow (fun g hg=>(HEV.out.lt g hg).1)
  have hkr2:=(hkr.drew.alloc (.cells #[.int .i64 x.fr,.int .i64 x.dt,.int .i64 x.kd,.int .i64 x.dst,.int .i64 x.arr,.int .i64 x.op,.int .i64 x.av,.int .i64 x.an,.int .i64 x.bv,.int .i64 x.bn] 40)).grown (r':=some gg) (by rw [← he];exact hgrow) (by
   rcases hat with h | h
   · exact .inl (by rw [← he,h])
   · refine .inr fun g hg=>?_
     rw [hgW]
     have:=Option.some.inj hg
     have hd:W1.drew.heap.size=W1.heap.size:=rfl
     omega)
  refine ⟨rfl,some gg,hkr2.trans (Kl.onlyM ((Only.refl K.M w2).setCell (p:=⟨K.M,6,none⟩) rfl _)),_,hm.turn hk hb2 (s':=s.add x) ?_ rfl rfl rfl,rfl⟩
  have e1:(s.add x).eds=s.eds ++ [x]:=rfl
  rw [e1,cellsE_snoc,hCS,List.length_append,hN]
  exact hown2
end Go.Proofs.YtmohmggnjldddaaGreatDoor
