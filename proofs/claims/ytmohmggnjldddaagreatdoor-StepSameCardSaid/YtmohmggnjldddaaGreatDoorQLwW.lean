/-
  Plain: a well program's graph is one, and runs as the program does.
-/
import Derived.Test.YtmohmggnjldddaaGreatDoorQLwU
import Derived.Test.YtmohmggnjldddaaGreatDoorQCfgR
import Derived.Test.YtmohmggnjldddaaGreatDoorQStK
import Derived.Test.YtmohmggnjldddaaGreatDoorQAbb
namespace Go.Proofs.YtmohmggnjldddaaGreatDoor
set_option maxHeartbeats 8000000
set_option maxRecDepth 100000
open Go Go.RowKit
theorem lwK_sim {C:Cx} (hC:C.ok) {k:Int} {nm:ByteArray} {xs cs:List Nd} {te ee:Bool} {rt re:Rn→Res Unit} {tb eb:Int→Int→Lw→Lw} {tB eB:Int→Int→Lw→List Bt} (hsh:gdK C.G .S k 0 nm xs.length cs.length) (hxs:gdL C.G .E xs) (hcs:gdL C.G .C cs)
    (lt:BkLo C.E C.G.na te tb tB) (le:BkLo C.E C.G.na ee eb eB) (ht:BkS C te rt tb tB) (he:BkS C ee re eb eB) (hup:∀ s,Up s (rt s))
    (f g:Int) (s0:Lw) (t s:Rn) (f0:0≤f) (f1:f<s0.pts) (g0:0≤g) (g1:g<s0.pts) (hz:0≤s0.tmp) (x0:0≤s0.ext) (x1:s0.ext<s0.pts) (hx:outE C.es s0.ext=[]) (hs:Sim C t s) (hb:InB C (lwKB C.E k nm xs (cdL C.E cs) (cdBL C.E cs) te ee tb tB eB f g s0)) (hT:(lwK C.E k nm xs (cdL C.E cs) te ee tb eb f g s0).tmp≤C.T) :
    Both C (stK C.rv k nm (barL xs) (valL C.rv xs) (hldL C.rv cs) rt re t) (C.fin f s) (fun _ _ s'=>C.fin f s=C.fin g s'):=by
 obtain ⟨k1,k7,kl1,kl2,kl3,kv,ka⟩:=hsh
 unfold lwKB at hb
 unfold lwK at hT
 unfold stK
 by_cases e1:k=1
 · rw [if_pos e1] at hb hT ⊢
   obtain ⟨x,rfl⟩:=List.length_eq_one_iff.1 (kl1 e1)
   simp only [List.getD_cons_zero] at hb hT
   have hgx:x.ty=.E∧gdN C.G x:=by unfold gdL at hxs;exact ⟨hxs.1,hxs.2.1⟩
   have hv:=kv e1
   rw [hC.nm.pl,hC.nm.nv,hC.nv] at hv
   have ef:fnR (valL C.rv [x]) 0=valN C.rv x:=by rw [valL,valL];rfl
   rw [ef]
   exact asg_sim hC hgx.2 hgx.1 hv f0 f1 hz hs hb hT
 rw [if_neg e1] at hb hT ⊢
 by_cases e2:k=2
 · rw [if_pos e2] at hb hT ⊢
   exact sto_sim hC hxs (kl2 e2) f0 f1 hz hs hb hT
 rw [if_neg e2] at hb hT ⊢
 have hc (h:3≤k∧k≤6):CdS C (hnR (hldL C.rv cs) 0) (cnR (cdL C.E cs) 0) (cnB (cdBL C.E cs) 0):=cdL_sim hC cs hcs 0 (by have:=kl3 h;omega)
 have hl (h:3≤k∧k≤6):CdLo C.E C.G.na (cnR (cdL C.E cs) 0) (cnB (cdBL C.E cs) 0):=cdL_lo hC.nm cs hcs 0 (by have:=kl3 h;omega)
 by_cases e3:k=3
 · rw [if_pos e3] at hb hT ⊢
   obtain ⟨p1,q1,r1,u1⟩:=beg_pts te s0
   obtain ⟨p2,q2,r2,u2⟩:=beg_pts ee (begS te s0)
   obtain ⟨y,hy⟩:∃ y,begP te g s0=y:=⟨_,rfl⟩
   obtain ⟨n,hn'⟩:∃ n,begP ee g (begS te s0)=n:=⟨_,rfl⟩
   obtain ⟨S,hS⟩:∃ S,begS ee (begS te s0)=S:=⟨_,rfl⟩
   rw [hy,hn',hS] at hb hT
   rw [hS] at p2 q2 r2 u2
   have hyc:(te=true∧y=g)∨(te=false∧y=s0.pts):=by cases te<;>simp [begP] at hy<;>simp [hy]
   have hnc:(ee=true∧n=g)∨(ee=false∧n=s0.pts+(if te then 0 else 1)):=by cases ee<;>simp [begP] at hn'<;>simp [← hn',p1]
   have a1:f<S.pts:=by cases te<;>cases ee<;>simp at p1 p2<;>omega
   have a2:0≤y:=by rcases hyc with ⟨_,h⟩ | ⟨_,h⟩<;>omega
   have a3:y<S.pts:=by cases te<;>cases ee<;>simp at p1 p2 hyc<;>omega
   have a4:0≤n:=by cases te<;>cases ee<;>simp at p1 p2 hnc<;>omega
   have a5:n<S.pts:=by cases te<;>cases ee<;>simp at p1 p2 hnc<;>omega
   have hcd:=hl ⟨by omega,by omega⟩ f y n S f0 a1 a2 a3 a4 a5 (by omega)
   have hPc:=hcd.pts
   have hTc:=hcd.tmp
   have hXc:=hcd.ext
   have htl:=lt y g (cnR (cdL C.E cs) 0 f y n S) a2 (by omega) g0 (by cases te<;>cases ee<;>simp at p1 p2<;>omega) (by omega) (by omega) (by cases te<;>cases ee<;>simp at p1 p2<;>omega)
   have hPt:=htl.pts
   have hTt:=htl.tmp
   have hXt:=htl.ext
   have hel:=le n g (tb y g (cnR (cdL C.E cs) 0 f y n S)) a4 (by omega) g0 (by cases te<;>cases ee<;>simp at p1 p2<;>omega) (by omega) (by omega) (by cases te<;>cases ee<;>simp at p1 p2<;>omega)
   have hTe:=hel.tmp
   refine (hc ⟨by omega,by omega⟩ f y n S t s f0 a1 a2 a3 a4 a5 (by omega) hs hb.left (by omega)).bind ?_
   intro v t2 s2 k2 p
   rw [p]
   cases v with
   | true =>
     exact ht y g _ t2 s2 a2 (by omega) g0 (by cases te<;>cases ee<;>simp at p1 p2<;>omega) (by omega) (by omega) (by cases te<;>cases ee<;>simp at p1 p2<;>omega) (by rw [hXc,u2,u1];exact hx) (fun h=>by rcases hyc with ⟨_,h2⟩ | ⟨h2,_⟩;exact h2;rw [h] at h2;cases h2) k2 hb.right.left (by omega)
   | false =>
     exact he n g _ t2 s2 a4 (by omega) g0 (by cases te<;>cases ee<;>simp at p1 p2<;>omega) (by omega) (by omega) (by cases te<;>cases ee<;>simp at p1 p2<;>omega) (by rw [hXt,hXc,u2,u1];exact hx) (fun h=>by rcases hnc with ⟨_,h2⟩ | ⟨h2,_⟩;exact h2;rw [h] at h2;cases h2) k2 hb.right.right hT
 rw [if_neg e3] at hb hT ⊢
 by_cases e4:k=4
 · rw [if_pos e4] at hb hT ⊢
   obtain ⟨p1,q1,r1,u1⟩:=beg_pts te s0
   obtain ⟨y,hy⟩:∃ y,begP te f s0=y:=⟨_,rfl⟩
   obtain ⟨S,hS⟩:∃ S,begS te s0=S:=⟨_,rfl⟩
   rw [hy,hS] at hb hT
   rw [hS] at p1 q1 r1 u1
   have hyc:(te=true∧y=f)∨(te=false∧y=s0.pts):=by cases te<;>simp [begP] at hy<;>simp [hy]
   have a1:s0.pts≤S.pts:=by cases te<;>simp at p1<;>omega
   have a2:0≤y:=by rcases hyc with ⟨_,h⟩ | ⟨_,h⟩<;>omega
   have a3:y<S.pts:=by cases te<;>simp at p1 hyc<;>omega
   have hcd:=hl ⟨by omega,by omega⟩ f y g S f0 (by omega) a2 a3 g0 (by omega) (by omega)
   have hPc:=hcd.pts
   have hTc:=hcd.tmp
   have hXc:=hcd.ext
   have htl:=lt y f (cnR (cdL C.E cs) 0 f y g S) a2 (by omega) f0 (by omega) (by omega) (by omega) (by omega)
   have hTt:=htl.tmp
   have hlen:=kl3 ⟨by omega,by omega⟩
   refine loop_sim (y:=y) (n:=g) (fun s=>hldL_more C.rv cs 0 s (by omega) (cndL_gd cs hcs)) hup ?_ ?_ _ t s hs ?_
   · intro t s hs
     exact hc ⟨by omega,by omega⟩ f y g S t s f0 (by omega) a2 a3 g0 (by omega) (by omega) hs hb.left (by omega)
   · intro t s hs
     exact ht y f _ t s a2 (by omega) f0 (by omega) (by omega) (by omega) (by omega) (by rw [hXc,u1];exact hx) (fun h=>by rcases hyc with ⟨_,h2⟩ | ⟨h2,_⟩;exact h2;rw [h] at h2;cases h2) hs hb.right hT
   · show C.most<(C.most+1 - t.steps)+t.steps
     have:=hs.le
     omega
 rw [if_neg e4] at hb hT ⊢
 by_cases e5:k=5
 · rw [if_pos e5] at hb hT ⊢
   have p1:s0.fresh.fresh.pts=s0.pts+1+1:=rfl
   have q1:s0.fresh.fresh.tmp=s0.tmp:=rfl
   refine (hc ⟨by omega,by omega⟩ f s0.pts (s0.pts+1) s0.fresh.fresh t s f0 (by omega) (by omega) (by omega) (by omega) (by omega) (by omega) hs hb.left hT).bind ?_
   intro v t2 s2 k2 p
   rw [p]
   cases v with
   | true =>
     refine (step_both k2 hb.right.left (fun h=>by cases h)).bind ?_
     rintro _ t3 s3 k3 ⟨rfl,rfl,h⟩
     have hd:doE (edgeE s0.pts g 13) (tick s2)=(0,noteR false 0 true (tick s2)):=rfl
     rw [hd] at h
     refine ⟨noteR false 0 true (tick s2),⟨k3.arrs,?_,k3.steps,k3.left,k3.le,k3.len,k3.T0,k3.tlen,k3.v⟩,h⟩
     show (tick s2).evs++_=(tick t2).evs++_
     rw [k3.evs]
   | false =>
     refine (step_both k2 hb.right.right (fun h=>by cases h)).bind ?_
     rintro _ t3 s3 k3 ⟨rfl,rfl,h⟩
     have hd:doE (edgeE (s0.pts+1) g 14) (tick s2)=(4,noteR false 0 false (tick s2)):=rfl
     rw [hd] at h
     simp only [Bool.false_eq_true,if_false]
     refine ⟨_,_,h,⟨k3.arrs,?_,k3.steps,k3.left,k3.le,k3.len,k3.T0,k3.tlen,k3.v⟩⟩
     show (tick s2).evs++_=(tick t2).evs++_
     rw [k3.evs]
 rw [if_neg e5] at hb hT ⊢
 by_cases e6:k=6
 · rw [if_pos e6] at hb hT ⊢
   refine (hc ⟨by omega,by omega⟩ f g s0.ext s0 t s f0 f1 g0 g1 x0 x1 hz hs hb hT).bind ?_
   intro v t2 s2 k2 p
   cases v with
   | true=>exact ⟨s2,k2,p⟩
   | false =>
     simp only [Bool.false_eq_true,if_false] at p ⊢
     exact ⟨_,_,p.trans (none_step hx x0 (by rw [k2.steps];exact k2.le)),k2⟩
 rw [if_neg e6] at hb hT ⊢
 rw [if_pos (by omega)]
 exact (edge_both rfl hs hb).mono fun _ _ _ _ h=>h.2
def LsS (C:Cx) (l:List Nd):Prop:=∀ (f p g:Int) (s0:Lw) (t s:Rn),0≤f→f<p→p+((l.length - 1:Nat):Int)≤s0.pts→f<s0.pts→0≤g→g<s0.pts→0≤s0.tmp→0≤s0.ext→s0.ext<s0.pts→outE C.es s0.ext=[]→(l=[]→f=g)→Sim C t s→InB C (lwBL C.E l f p g s0)→(lwL C.E l f p g s0).tmp≤C.T →
 Both C (stL C.rv l t) (C.fin f s) (fun _ _ s'=>C.fin f s=C.fin g s')
theorem blk_sim {C:Cx} {l:List Nd} (h:LsS C l):BkS C l.isEmpty (stL C.rv l) (blkF l.length (lwL C.E l)) (blkB l.length (lwBL C.E l)):=by
 intro f g s0 t s f0 f1 g0 g1 hz x0 x1 hx he hs hb hT
 have p1:(s0.more (l.length - 1)).pts=s0.pts+((l.length - 1:Nat):Int):=rfl
 exact h f s0.pts g (s0.more (l.length - 1)) t s f0 f1 (by omega) (by omega) g0 (by omega) hz x0 (by show s0.ext<_;omega) hx (fun h=>he (by rw [h];rfl)) hs hb hT
mutual
theorem lwN_sim {C:Cx} (hC:C.ok):∀ (x:Nd),gdN C.G x→x.ty=.S→∀ (f g:Int) (s0:Lw) (t s:Rn),0≤f→f<s0.pts→0≤g→g<s0.pts→0≤s0.tmp→0≤s0.ext→s0.ext<s0.pts→outE C.es s0.ext=[]→Sim C t s→InB C (lwB' C.E x f g s0)→(lwN C.E x f g s0).tmp≤C.T →
    Both C (stN C.rv x t) (C.fin f s) (fun _ _ s'=>C.fin f s=C.fin g s')
 | .mk ty k m nm xs cs ts es,hg,hty=>by
   simp only [Nd.ty] at hty
   subst hty
   unfold gdN at hg
   obtain ⟨hsh,hxs,hcs,hts,hes⟩:=hg
   intro f g s0 t s f0 f1 g0 g1 hz x0 x1 hx hs hb hT
   rw [lwB'] at hb
   rw [lwN] at hT
   rw [stN]
   exact lwK_sim hC hsh hxs hcs (blk_lo (lwL_lo hC.nm ts hts)) (blk_lo (lwL_lo hC.nm es hes)) (blk_sim (lwL_sim hC ts hts)) (blk_sim (lwL_sim hC es hes)) (stL_up C.rv ts) f g s0 t s f0 f1 g0 g1 hz x0 x1 hx hs hb hT
theorem lwL_sim {C:Cx} (hC:C.ok):∀ (l:List Nd),gdL C.G .S l→LsS C l
 | [],_=>by
   intro f p g s0 t s _ _ _ _ _ _ _ _ _ _ he hs _ _
   rw [stL,he rfl]
   exact ⟨s,hs,rfl⟩
 | x :: r,hg=>by
   intro f p g s0 t s f0 fp hp f1 g0 g1 hz x0 x1 hx _ hs hb hT
   unfold gdL at hg
   obtain ⟨hty,hgx,hr⟩:=hg
   have hl:(((x :: r).length - 1:Nat):Int)=(r.length:Int):=by simp
   rw [hl] at hp
   obtain ⟨u,hu⟩:∃ u,(if r.isEmpty then g else p)=u:=⟨_,rfl⟩
   rw [lwBL,hu] at hb
   rw [lwL,hu] at hT
   have huc:(r.isEmpty=true∧u=g)∨(r.isEmpty=false∧u=p∧1≤r.length):=by
    cases r with
    | nil=>left;exact ⟨rfl,by simpa using hu.symm⟩
    | cons y r=>right;exact ⟨rfl,by simpa using hu.symm,by simp⟩
   have hu0:0≤u∧u<s0.pts:=by omega
   have h1:=lwN_lo hC.nm x hgx hty f u s0 f0 f1 hu0.1 hu0.2 hz x0 x1
   have hP:=h1.pts
   have hTT:=h1.tmp
   have hX:=h1.ext
   have hrl:r.isEmpty=false→((r.length - 1:Nat):Int)=(r.length:Int) - 1:=fun h=>by cases r<;>simp at h ⊢
   have hT2:(lwN C.E x f u s0).tmp≤C.T:=by
    rcases huc with ⟨a1,a2⟩ | ⟨a1,a2,a3⟩
    · obtain rfl:r=[]:=by simpa using a1
      rw [lwL] at hT
      exact hT
    · have:=hrl a1
      have h2:=lwL_lo hC.nm r hr u (p+1) g (lwN C.E x f u s0) (by omega) (by omega) (by omega) (by omega) g0 (by omega) (by omega) (by omega) (by omega)
      have:=h2.tmp
      omega
   rw [stL]
   refine (lwN_sim hC x hgx hty f u s0 t s f0 f1 hu0.1 hu0.2 hz x0 x1 hx hs hb.left hT2).bind ?_
   intro _ t2 s2 k2 p2
   rw [p2]
   rcases huc with ⟨a1,a2⟩ | ⟨a1,a2,a3⟩
   · obtain rfl:r=[]:=by simpa using a1
     rw [stL]
     exact ⟨s2,k2,by rw [a2]⟩
   · have:=hrl a1
     exact lwL_sim hC r hr u (p+1) g (lwN C.E x f u s0) t2 s2 (by omega) (by omega) (by omega) (by omega) g0 (by omega) (by omega) (by omega) (by omega) (by rw [hX];exact hx) (fun h=>by rw [h] at a1;simp at a1) k2 hb.right hT
end
theorem flat_cons (b:Bt) (r:List Bt):flat (b :: r)=b.eds++flat r:=by simp [flat]
theorem outE_eds {b:Bt} (h:b.ok) (p:Int):outE b.eds p=if b.pt=p then b.eds else []:=by
 cases b with
 | one e =>
   simp only [Bt.eds,Bt.pt,outE]
   by_cases hp:e.fr=p
   · simp [hp]
   · simp [hp]
 | two e f =>
   have h1:=h.1
   simp only [Bt.eds,Bt.pt,outE]
   by_cases hp:e.fr=p
   · simp [hp,← h1]
   · simp [hp,← h1]
theorem outE_app (a b:List Ed) (p:Int):outE (a++b) p=outE a p++outE b p:=by simp [outE]
theorem outE_none:∀ (bs:List Bt),(∀ b ∈ bs,b.ok)→∀ p,p ∉ ptsB bs→outE (flat bs) p=[]
 | [],_,p,_=>rfl
 | b :: r,hok,p,hp=>by
   have e:ptsB (b :: r)=b.pt :: ptsB r:=rfl
   rw [e,List.mem_cons] at hp
   rw [flat_cons,outE_app,outE_eds (hok b (by simp)),if_neg (fun h=>hp (.inl h.symm)),outE_none r (fun x hx=>hok x (by simp [hx])) p (fun h=>hp (.inr h))]
   rfl
theorem outE_some:∀ (bs:List Bt),(∀ b ∈ bs,b.ok)→(ptsB bs).Nodup→∀ b ∈ bs,outE (flat bs) b.pt=b.eds
 | [],_,_,b,hb=>by cases hb
 | c :: r,hok,hnd,b,hb=>by
   have e:ptsB (c :: r)=c.pt :: ptsB r:=rfl
   rw [e,List.nodup_cons] at hnd
   have hr:∀ x ∈ r,x.ok:=fun x hx=>hok x (by simp [hx])
   rw [flat_cons,outE_app,outE_eds (hok c (by simp))]
   rcases List.mem_cons.1 hb with rfl | hb
   · rw [if_pos rfl,outE_none r hr _ hnd.1,List.append_nil]
   · rw [if_neg (fun h=>hnd.1 (by rw [h];exact List.mem_map_of_mem hb)),outE_some r hr hnd.2 b hb]
     rfl
open Go Go.RowKit Go.Maps
def lvD (ds:List Nd):Lv:=⟨plW ds,(varsL ds).length⟩
def lowD (ds ss:List Nd):Lw:=lowP (lvD ds) ss
def cfgF (ds ss:List Nd):Int:=if (wellP ds ss).2≠0 then (wellP ds ss).2 else outF (varsL ds).length (lowD ds ss).tmp (lowD ds ss).pts (lowD ds ss).eds.length
def zeroG:Value:=.agg #[.slice none 0 0,.int .i64 0,.slice none 0 0,.int .i64 0,.int .i64 0,.slice none 0 0]
def CfgIn (w:World) (lo:Nat) (VN:List ByteArray) (AN:List Nd) (s:Lw) (u:Value):Prop:=∃ vv va ve,u=.agg #[vv,.int .i64 s.tmp,va,.int .i64 s.pts,.int .i64 s.ext,ve]∧w.ownsRow lo 9 1 vv VN.length (cellsT VN)∧w.ownsRow lo 104 2 va AN.length (cellsD AN)∧w.ownsRow lo 40 10 ve s.eds.length (cellsE s.eds)
def LowTo (w:World) (ds ss:List Nd):Ending→World→Prop:=fun e w'=>∃ u,e=.returned (.tuple #[u,.int .i64 (cfgF ds ss)])∧Below w.heap.size w w'∧(cfgF ds ss=0→CfgIn w' w.heap.size (varsL ds) (arrsL ds) (lowD ds ss) u)∧(cfgF ds ss≠0→u=zeroG)
theorem ownsRow_kl {K:Le} {r r':Option Nat} {w w':World} {base:Nat} {e:TypeId} {size n:Nat} {v:Value} {xs:List Value} (h:w.ownsRow base e size v n xs) (hk:Kl K r r' w w') (hM:∀ g,v.ownBlock=some g→g≠K.M∧r≠some g):w'.ownsRow base e size v n xs:=by
 refine ⟨h.1,?_⟩
 rcases h.2 with hn | ⟨g,cap,cur,rfl,hb,hgg,rest⟩
 · exact .inl hn
 · refine .inr ⟨g,cap,cur,rfl,hb,?_,rest⟩
   rw [hk.block g (Array.getElem?_eq_some_iff.1 hgg).1 (hM g rfl).1 (hM g rfl).2]
   exact hgg
theorem ownsRow_lower {w:World} {base base':Nat} {e:TypeId} {size n:Nat} {v:Value} {xs:List Value} (h:w.ownsRow base e size v n xs) (hb:base'≤base):w.ownsRow base' e size v n xs:=by
 refine ⟨h.1,?_⟩
 rcases h.2 with hn | ⟨g,cap,cur,rfl,h1,rest⟩
 · exact .inl hn
 · exact .inr ⟨g,cap,cur,rfl,Nat.le_trans hb h1,rest⟩
theorem ownsRow_form {w:World} {base:Nat} {e:TypeId} {size n:Nat} {v:Value} {xs:List Value} (h:w.ownsRow base e size v n xs):∃ a c,v=.slice a n c:=by
 rcases h.2 with ⟨rfl,rfl⟩ | ⟨g,cap,cur,rfl,-⟩
 · exact ⟨none,0,rfl⟩
 · exact ⟨_,_,rfl⟩
def gput6 (w:World) (Y:Nat) (v0 v1 v2 v3 v4 v5:Value):World:=(((((w.setCell ⟨Y,0,none⟩ v0).setCell ⟨Y,1,none⟩ v1).setCell ⟨Y,2,none⟩ v2).setCell ⟨Y,3,none⟩ v3).setCell ⟨Y,4,none⟩ v4).setCell ⟨Y,5,none⟩ v5
theorem gput6_blk {w:World} {Y:Nat} {a0 a1 a2 a3 a4 a5:Value} {t:TypeId} (h:Blk w Y #[a0,a1,a2,a3,a4,a5] t) (v0 v1 v2 v3 v4 v5:Value):Blk (gput6 w Y v0 v1 v2 v3 v4 v5) Y #[v0,v1,v2,v3,v4,v5] t:=by
 have h0:Blk (w.setCell ⟨Y,0,none⟩ v0) Y #[v0,a1,a2,a3,a4,a5] t:=h.set 0 v0
 have h1:Blk ((w.setCell ⟨Y,0,none⟩ v0).setCell ⟨Y,1,none⟩ v1) Y #[v0,v1,a2,a3,a4,a5] t:=h0.set 1 v1
 have h2:Blk (((w.setCell ⟨Y,0,none⟩ v0).setCell ⟨Y,1,none⟩ v1).setCell ⟨Y,2,none⟩ v2) Y #[v0,v1,v2,a3,a4,a5] t:=h1.set 2 v2
 have h3:Blk ((((w.setCell ⟨Y,0,none⟩ v0).setCell ⟨Y,1,none⟩ v1).setCell ⟨Y,2,none⟩ v2).setCell ⟨Y,3,none⟩ v3) Y #[v0,v1,v2,v3,a4,a5] t:=h2.set 3 v3
 have h4:Blk (((((w.setCell ⟨Y,0,none⟩ v0).setCell ⟨Y,1,none⟩ v1).setCell ⟨Y,2,none⟩ v2).setCell ⟨Y,3,none⟩ v3).setCell ⟨Y,4,none⟩ v4) Y #[v0,v1,v2,v3,v4,a5] t:=h3.set 4 v4
 have h5:Blk ((((((w.setCell ⟨Y,0,none⟩ v0).setCell ⟨Y,1,none⟩ v1).setCell ⟨Y,2,none⟩ v2).setCell ⟨Y,3,none⟩ v3).setCell ⟨Y,4,none⟩ v4).setCell ⟨Y,5,none⟩ v5) Y #[v0,v1,v2,v3,v4,v5] t:=h4.set 5 v5
 exact h5
theorem gput6_only (w:World) (Y:Nat) (v0 v1 v2 v3 v4 v5:Value):Only Y w (gput6 w Y v0 v1 v2 v3 v4 v5):=((((((Only.refl Y w).setCell (p:=⟨Y,0,none⟩) rfl _).setCell (p:=⟨Y,1,none⟩) rfl _).setCell (p:=⟨Y,2,none⟩) rfl _).setCell (p:=⟨Y,3,none⟩) rfl _).setCell (p:=⟨Y,4,none⟩) rfl _).setCell (p:=⟨Y,5,none⟩) rfl _
theorem Lower_any (ds ss:List Nd) (v0 v1:Value) (w:World) (hd:SlIn w .D ds v0) (hs:SlIn w .S ss v1) (htab:TabK w) :
    Calls Tryz.prog 6 #[.agg #[v0,v1]] w (LowTo w ds ss):=by
 have hvars:=fun w2 (hb:Below w.heap.size w w2)=>wvars_any ds ss v0 v1 w2 (hd.keep (keeps_below hb)) (hs.keep (keeps_below hb))
 have harrs:=fun w2 (hb:Below w.heap.size w w2)=>warrs_any ds ss v0 v1 w2 (hd.keep (keeps_below hb)) (hs.keep (keeps_below hb))
 have hv0:∃ a c,v0=.slice a ds.length c:=by obtain ⟨a,c,h,-⟩:=hd;exact ⟨a,c,h⟩
 have hv1:∃ a c,v1=.slice a ss.length c:=by obtain ⟨a,c,h,-⟩:=hs;exact ⟨a,c,h⟩
 obtain ⟨a0,c0,rfl⟩:=hv0
 obtain ⟨a1,c1,rfl⟩:=hv1
 obtain ⟨X,hX⟩:∃ X,w.heap.size=X:=⟨_,rfl⟩
 obtain ⟨W1,hW1⟩:∃ W1,w.alloc (.cells #[.slice a0 ds.length c0,.slice a1 ss.length c1] 25)=W1:=⟨_,rfl⟩
 have hx1:Blk W1 X #[.slice a0 ds.length c0,.slice a1 ss.length c1] 25:=by rw [← hW1,← hX];exact Blk.new w _ _
 have hb1:Below w.heap.size w W1:=by rw [← hW1];exact (Below.refl _ w).alloc (Nat.le_refl _) _
 have hs1:W1.heap.size=X+1:=by rw [← hW1,World.size_alloc,hX]
 obtain ⟨R,hR⟩:∃ R,W1.heap.size=R:=⟨_,rfl⟩
 obtain ⟨W2,hW2⟩:∃ W2,W1.alloc (.cells #[.slice none 0 0,.int .i64 0,.slice none 0 0,.int .i64 0,.int .i64 0,.slice none 0 0] 30)=W2:=⟨_,rfl⟩
 have hx2:Blk W2 X #[.slice a0 ds.length c0,.slice a1 ss.length c1] 25:=by rw [← hW2];exact hx1.alloc _
 have hr2:Blk W2 R #[.slice none 0 0,.int .i64 0,.slice none 0 0,.int .i64 0,.int .i64 0,.slice none 0 0] 30:=by rw [← hW2,← hR];exact Blk.new W1 _ _
 have hb2:Below w.heap.size w W2:=by rw [← hW2];exact hb1.alloc hb1.size _
 have hXR:X+1=R:=by rw [← hR,hs1]
 have x0:W2.cell? ⟨X,0,none⟩=some (.slice a0 ds.length c0):=hx2.cell 0
 have x1:W2.cell? ⟨X,1,none⟩=some (.slice a1 ss.length c1):=hx2.cell 1
 have HV:=zh (hvars W2 hb2)
 have HA:=zh (fun w3 (hb:Below W2.heap.size W2 w3)=>harrs w3 (hb2.trans (hb.mono hb2.size)))
 have H2:=zh (za hx2 (za hr2 hb2))
 have HIN:=zh (za hd (za hs htab))
 have HE:=zh (za hW1 (za hX (za hW2 hXR)))
 clear hvars harrs hx1 hb1 hx2 hr2 hb2 hd hs hX hR hW1 hW2 hXR hs1 htab
 obtain ⟨F,hF⟩:∃ f,cfgF ds ss=f:=⟨_,rfl⟩
 unfold LowTo
 rw [hF]
 unfold cfgF at hF
 obtain ⟨WE,hWE⟩:∃ e,(wellP ds ss).2=e:=⟨_,rfl⟩
 rw [hWE] at hF
 simp only [hWE] at HV HA
 by_cases hz:WE=0
 · subst hz
   simp only [if_true] at HV HA
   simp only [ne_eq,not_true_eq_false,if_false] at hF
   obtain ⟨hd1,hd2,hd3⟩:=wellP_ok hWE
   have hnv:=vars_few hd2
   have hna:=arrs_few hd2
   have hnms:=nms_sz (fit_list HIN.out.1) (noD_list HIN.out.2.1) hd1
   have hn0:∀ x ∈ varsL ds,x.size≤maxLen:=by
    intro x hx
    obtain ⟨y,hy,-,rfl⟩:=varsL_mem hx
    have:=hnms.1 y hy
    rw [dNm_own (ty_of (fit_list HIN.out.1) y hy)]
    unfold maxLen
    omega
   have hn1:∀ x ∈ arrsL ds,(dNm x).size≤maxLen:=by
    intro y hy
    have hyd:=(arrsL_mem hy).1
    have:=hnms.1 y hyd
    rw [dNm_own (ty_of (fit_list HIN.out.1) y hyd)]
    unfold maxLen
    omega
   have hfm:=prog_fm (fit_list HIN.out.2.1) hWE
   have HND:=zh (za hn0 (za hn1 (za hnv (za hna hfm))))
   have HF:=zh hF
   clear hd1 hd2 hd3 hnms hn0 hn1 hnv hna hWE hfm hF
   go_enter Tryz.func6,Tryz.ntmps6
   go_upto_region 1 with fail
   rw [HE.out.1,HE.out.2.1,HE.out.2.2.1,HE.out.2.2.2]
   go_upto_region 3 with (first
    | (go_at_call 14;(with_reducible refine HV.out.mono ?_);rintro e w3 ⟨v8,rfl,ho8,hb3⟩;have q0:w3.cell? ⟨X,0,none⟩=some (.slice a0 ds.length c0):=(H2.out.1.next hb3).cell 0;have q1:w3.cell? ⟨X,1,none⟩=some (.slice a1 ss.length c1):=(H2.out.1.next hb3).cell 1;have HAC:=zh (HA.out w3 hb3);have HB3:=zh hb3;have HO8:=zh ho8;clear hb3 ho8 x0 x1)
    | (go_at_call 15;(with_reducible refine HAC.out.mono ?_);rintro e w4 ⟨v10,rfl,ho10,hb4⟩;have HB4:=zh (HB3.out.trans (hb4.mono HB3.out.size));have HO10:=zh (ownsRow_lower ho10 HB3.out.size);have HO9:=zh (ownsRow_below HO8.out hb4);clear hb4 ho10 q0 q1) | fail)
   have HNL:=zh (newl_any (varsL ds) (arrsL ds) v8 v10 w4 _ _ HO9.out HO10.out HND.out.2.2.1 HND.out.2.2.2.1 HND.out.1 HND.out.2.1)
   have x4:=(H2.out.1.next HB4.out).cell
   go_upto_region 6 with (first | (go_at_call 16;(with_reducible refine HNL.out.mono ?_);rintro e w5 ⟨K,hk,hH0,hpl,hnv,hvv,hva,rfl,hb5,h5⟩;have x5:=(H2.out.1.next HB4.out).next hb5 |>.cell;have HK:=zh (za hk (za hH0 (za hpl (za hnv (za hvv (za hva (za hb5 h5)))))));clear hk hH0 hpl hnv hvv hva hb5 h5 x4) | fail)
   have hw4:Below w.heap.size w w4:=H2.out.2.2.trans (HB4.out.mono H2.out.2.2.size)
   have hE:K.E=lvD ds:=by
    unfold lvD plW
    rw [← HK.out.2.2.1,← HK.out.2.2.2.1]
   have htab4:TabK w4:=tab_next HIN.out.2.2 hw4
   have HP:=zh (program_any K HK.out.1 w4 (by rw [HK.out.2.1];exact Nat.le_refl _) htab4 ss HND.out.2.2.2.2.1 HND.out.2.2.2.2.2 _ w5 (HIN.out.2.1.keep (keeps_below hw4)) HK.out.2.2.2.2.2.2.1 none HK.out.2.2.2.2.2.2.2)
   rw [hE] at HP
   have HW4:=zh (za hw4 hE)
   clear hw4 hE htab4
   go_upto_region 7 with (first | (go_at_call 17;(with_reducible refine HP.out.mono ?_);rintro e w6 ⟨rfl,r6,hk6,h6⟩;have H6:=zh (za hk6 h6);clear hk6 h6 x5) | fail)
   obtain ⟨ve,hm,he⟩:=H6.out.2
   obtain ⟨av,cv,hvv⟩:=ownsRow_form HO9.out
   obtain ⟨aa,ca,hva⟩:=ownsRow_form HO10.out
   obtain ⟨ae,ce,rfl⟩:=ownsRow_form hm.eds
   obtain ⟨S,hS⟩:∃ S,lowP (lvD ds) ss=S:=⟨_,rfl⟩
   have hSD:lowD ds ss=S:=hS
   rw [hS] at hm
   have c1:w6.cell? ⟨K.M,1,none⟩=some (.slice av (varsL ds).length cv):=by rw [← hvv,← HK.out.2.2.2.2.1];exact hm.mach.cell 1
   have c2:w6.cell? ⟨K.M,2,none⟩=some (.int .i64 S.tmp):=hm.mach.cell 2
   have c3:w6.cell? ⟨K.M,3,none⟩=some (.slice aa (arrsL ds).length ca):=by rw [← hva,← HK.out.2.2.2.2.2.1];exact hm.mach.cell 3
   have c4:w6.cell? ⟨K.M,4,none⟩=some (.int .i64 S.pts):=hm.mach.cell 4
   have c5:w6.cell? ⟨K.M,5,none⟩=some (.int .i64 S.ext):=hm.mach.cell 5
   have c6:w6.cell? ⟨K.M,6,none⟩=some (.slice ae S.eds.length ce):=hm.mach.cell 6
   have hMlt:=hm.mach.lt
   have hM6:=hm.mach
   have hre:w6.ownsRow K.B1 40 10 (.slice ae S.eds.length ce) S.eds.length (cellsE S.eds):=hm.eds
   have hvr:w6.ownsRow W2.heap.size 9 1 (.slice av (varsL ds).length cv) (varsL ds).length (cellsT (varsL ds)):=by
    rw [← hvv]
    refine ownsRow_kl (ownsRow_below HO9.out HK.out.2.2.2.2.2.2.1) H6.out.1 (fun g hg=>⟨fun e=>?_,by simp⟩)
    have h1:=(HO9.out.lt g hg).2
    have h2:=HK.out.1.m0
    rw [HK.out.2.1] at h2
    omega
   have har:w6.ownsRow W2.heap.size 104 2 (.slice aa (arrsL ds).length ca) (arrsL ds).length (cellsD (arrsL ds)):=by
    rw [← hva]
    refine ownsRow_kl (ownsRow_below HO10.out HK.out.2.2.2.2.2.2.1) H6.out.1 (fun g hg=>⟨fun e=>?_,by simp⟩)
    have h1:=(HO10.out.lt g hg).2
    have h2:=HK.out.1.m0
    rw [HK.out.2.1] at h2
    omega
   have hb46:Below w4.heap.size w4 w6:=HK.out.2.2.2.2.2.2.1.trans (by have:=H6.out.1.old HK.out.1 HK.out.2.2.2.2.2.2.2;rw [HK.out.2.1] at this;exact this)
   have hr6:=(H2.out.2.1.next HB4.out).next hb46
   have hRlt:R<W2.heap.size:=H2.out.2.1.lt
   have hb6:Below w.heap.size w w6:=HW4.out.1.trans (hb46.mono HW4.out.1.size)
   have hBB:W2.heap.size≤K.B1:=by have h1:=HK.out.1.b0;rw [HK.out.2.1] at h1;have:=HB4.out.size;omega
   have hnv64:(varsL ds).length≤9223372036854775807:=by have:=HND.out.2.2.1;omega
   have HOG:=zh (fun w=>outgrown_any av aa ae (varsL ds).length cv (arrsL ds).length ca S.eds.length ce hnv64 S.tmp S.pts S.ext w)
   have H7:=zh (za hre (za hvr (za har (za hr6 (za hRlt (za hb6 (za hBB (za hSD hM6))))))))
   have hF:=HF.out
   rw [hSD] at hF
   rw [hF] at HOG
   have HF2:=zh hF
   clear hm he hre hvr har hr6 hRlt hb6 hBB hSD hb46 hvv hva hS hnv64 hF HF HP
   by_cases hFz:F=0
   · subst hFz
     go_upto_region 10 with (first | (go_at_call 18;(with_reducible refine (HOG.out _).mono ?_);rintro e w7 ⟨rfl,hb7⟩;have d1:=keeps_below hb7 _ _ _ c1;have d2:=keeps_below hb7 _ _ _ c2;have d3:=keeps_below hb7 _ _ _ c3;have d4:=keeps_below hb7 _ _ _ c4;have d5:=keeps_below hb7 _ _ _ c5;have d6:=keeps_below hb7 _ _ _ c6;have HB7:=zh hb7;have r0:=(H7.out.2.2.2.1.next hb7).cell;have r1:=(H7.out.2.2.2.1.next hb7).free;clear hb7 c1 c2 c3 c4 c5 c6) | fail)
     go_wp2_with fail
     have hbl:=gput6_blk (H7.out.2.2.2.1.next HB7.out) (.slice av (varsL ds).length cv) (.int .i64 S.tmp) (.slice aa (arrsL ds).length ca) (.int .i64 S.pts) (.int .i64 S.ext) (.slice ae S.eds.length ce)
     have ho:=gput6_only w7 R (.slice av (varsL ds).length cv) (.int .i64 S.tmp) (.slice aa (arrsL ds).length ca) (.int .i64 S.pts) (.int .i64 S.ext) (.slice ae S.eds.length ce)
     have hwR:w.heap.size≤R:=by have h1:=HE.out.2.1;have h2:=HE.out.2.2.2;omega
     refine bodyPost_ret (res_row_tmp rfl _ _ R _ _ _ _ rfl hbl rfl rfl (by kernel_rfl)) rfl ?_
     obtain ⟨hre,hvr,har,hr6,hRlt,hb6,hBB,hSD,-⟩:=H7.out
     have hw2:w.heap.size≤W2.heap.size:=H2.out.2.2.size
     refine ⟨_,rfl,(hb6.trans (HB7.out.mono hb6.size)).trans (ho.old hwR (Nat.le_trans hb6.size HB7.out.size)),?_⟩
     rw [hSD]
     exact ⟨_,_,_,rfl,ownsRow_lower (ownsRow_only (ownsRow_below hvr HB7.out) ho hRlt) hw2,ownsRow_lower (ownsRow_only (ownsRow_below har HB7.out) ho hRlt) hw2,ownsRow_lower (ownsRow_only (ownsRow_below hre HB7.out) ho (by omega)) (by omega)⟩
   · have t1:(F==0)=false:=by simpa using hFz
     have t2:(F != 0)=true:=by simpa using hFz
     have HFZ:=zh hFz
     clear hFz
     go_upto_region 9 with (first | (go_at_call 18;(with_reducible refine (HOG.out _).mono ?_);rintro e w7 ⟨rfl,hb7⟩;have HB7:=zh hb7;have r0:=(H7.out.2.2.2.1.next hb7).cell;have r1:=(H7.out.2.2.2.1.next hb7).free;clear hb7 c1 c2 c3 c4 c5 c6) | fail)
     go_wp2_with fail
     have hbl:=gput6_blk (H7.out.2.2.2.1.next HB7.out) (.slice none 0 0) (.int .i64 0) (.slice none 0 0) (.int .i64 0) (.int .i64 0) (.slice none 0 0)
     have ho:=gput6_only w7 R (.slice none 0 0) (.int .i64 0) (.slice none 0 0) (.int .i64 0) (.int .i64 0) (.slice none 0 0)
     have hwR:w.heap.size≤R:=by have h1:=HE.out.2.1;have h2:=HE.out.2.2.2;omega
     refine bodyPost_ret (res_row_tmp rfl _ _ R _ _ _ _ rfl hbl rfl rfl (by kernel_rfl)) rfl ?_
     obtain ⟨hre,hvr,har,hr6,hRlt,hb6,hBB,hSD,-⟩:=H7.out
     exact ⟨_,rfl,(hb6.trans (HB7.out.mono hb6.size)).trans (ho.old hwR (Nat.le_trans hb6.size HB7.out.size)),fun h=>absurd h HFZ.out,fun _=>rfl⟩
 · rw [if_pos hz] at hF
   subst hF
   simp only [if_neg hz] at HV HA
   have t1:(WE==0)=false:=by simpa using hz
   have t2:(WE != 0)=true:=by simpa using hz
   have HZ:=zh hz
   clear hz hWE
   go_enter Tryz.func6,Tryz.ntmps6
   go_upto_region 1 with fail
   rw [HE.out.1,HE.out.2.1,HE.out.2.2.1,HE.out.2.2.2]
   go_upto_region 3 with (first
    | (go_at_call 14;(with_reducible refine HV.out.mono ?_);rintro e w3 ⟨v8,rfl,ho8,hb3⟩;have q0:w3.cell? ⟨X,0,none⟩=some (.slice a0 ds.length c0):=(H2.out.1.next hb3).cell 0;have q1:w3.cell? ⟨X,1,none⟩=some (.slice a1 ss.length c1):=(H2.out.1.next hb3).cell 1;have HAC:=zh (HA.out w3 hb3);have HB3:=zh hb3;clear hb3 ho8 x0 x1)
    | (go_at_call 15;(with_reducible refine HAC.out.mono ?_);rintro e w4 ⟨v10,rfl,ho10,hb4⟩;have HB4:=zh (HB3.out.trans (hb4.mono HB3.out.size));clear hb4 ho10 q0 q1) | fail)
   have r0:=(H2.out.2.1.next HB4.out).cell
   have r1:=(H2.out.2.1.next HB4.out).free
   go_wp2_with fail
   have hbl:=gput6_blk (H2.out.2.1.next HB4.out) (.slice none 0 0) (.int .i64 0) (.slice none 0 0) (.int .i64 0) (.int .i64 0) (.slice none 0 0)
   have ho:=gput6_only w4 R (.slice none 0 0) (.int .i64 0) (.slice none 0 0) (.int .i64 0) (.int .i64 0) (.slice none 0 0)
   have hwR:w.heap.size≤R:=by have h1:=HE.out.2.1;have h2:=HE.out.2.2.2;omega
   refine bodyPost_ret (res_row_tmp rfl _ _ R _ _ _ _ rfl hbl rfl rfl (by kernel_rfl)) rfl ?_
   have hb4:Below w.heap.size w w4:=H2.out.2.2.trans (HB4.out.mono H2.out.2.2.size)
   exact ⟨_,rfl,hb4.trans (ho.old hwR hb4.size),fun h=>absurd h HZ.out,fun _=>rfl⟩
def gD (ds ss:List Nd):Gf:=⟨varsL ds,(lowD ds ss).tmp,arrsL ds,(lowD ds ss).pts,(lowD ds ss).ext,(lowD ds ss).eds⟩
theorem gD_nv (ds ss:List Nd):(gD ds ss).nv=((varsL ds).length:Int)+(lowD ds ss).tmp:=rfl
theorem gsizes_ok {ds ss:List Nd} (hd:fitL .D ds) (hz:faultT (progT ds ss)=0):∀ x ∈ ds,0≤dSz x:=by
 intro x hx
 have hl:=fault_lim hz
 have hw:(progT ds ss).l.any (fun x=>!wellN x)=false:=by
  unfold faultT at hz
  rw [if_neg (by simpa using hl)] at hz
  cases h:(progT ds ss).l.any (fun x=>!wellN x) with
  | false=>rfl
  | true=>rw [h] at hz;simp at hz
 rw [progT_list hl,allL_app] at hw
 have hmem:∀ (l:List Nd),fitL .D l→∀ y ∈ l,y ∈ allL l:=by
  intro l
  induction l with
  | nil=>intro _ y hy;cases hy
  | cons z r ih =>
    intro hf y hy
    unfold fitL at hf
    rw [allL]
    rcases List.mem_cons.1 hy with rfl | hy
    · refine List.mem_append_left _ ?_
      obtain ⟨ty,k,n,nm,xs,cs,ts,es⟩:=y
      unfold allN
      exact List.mem_cons_self
    · exact List.mem_append_right _ (ih hf.2.2 y hy)
 have h1:wellN x=true:=by
  cases h:wellN x with
  | true=>rfl
  | false =>
    have:(allL ds++allL ss).any (fun x=>!wellN x)=true:=List.any_eq_true.2 ⟨x,List.mem_append_left _ (hmem ds hd x hx),by rw [h];rfl⟩
    rw [hw] at this
    cases this
 have hty:=ty_of hd x hx
 obtain ⟨ty,k,n,nm,xs,cs,ts,es⟩:=x
 simp only [Nd.ty] at hty
 subst hty
 simp only [wellN,wellD] at h1
 show 0≤n
 simp at h1
 exact h1.1
theorem pt_mem {bs:List Bt} {p:Int} (h:p ∈ ptsB bs):∃ b ∈ bs,b.pt=p:=List.mem_map.1 h
theorem len_two {α:Type} {l:List α} (h:l.length=2):∃ a c,l=[a,c]:=by
 rcases l with _ | ⟨a,_ | ⟨c,_ | ⟨d,r⟩⟩⟩<;>simp at h
 exact ⟨a,c,rfl⟩
theorem rep_getD (n i:Nat):(List.replicate n (0:Int)).getD i 0=0:=by
 rw [List.getD_eq_getElem?_getD,List.getElem?_replicate]
 split<;>rfl
theorem tog_of {es:List Ed} {p:Nat} {b:Bt} (hb:b.ok) (h:outE es (p:Int)=b.eds):tog es (outL es p)=true:=by
 have hm:=outL_map es p
 rw [h] at hm
 cases b with
 | one e =>
   have hl:(outL es p).length=1:=by rw [← List.length_map (f:=fun j=>es.getD j noE),hm];rfl
   obtain ⟨a,ha⟩:=List.length_eq_one_iff.1 hl
   rw [ha] at hm ⊢
   have he:es.getD a noE=e:=by simpa [Bt.eds] using hm
   show ((es.getD a noE).kd != 12)=true
   rw [he]
   unfold Bt.ok at hb
   simpa using hb
 | two e f =>
   have hl:(outL es p).length=2:=by rw [← List.length_map (f:=fun j=>es.getD j noE),hm];rfl
   obtain ⟨a,c,ha⟩:=len_two hl
   rw [ha] at hm ⊢
   have he:es.getD a noE=e∧es.getD c noE=f:=by simpa [Bt.eds] using hm
   obtain ⟨-,k1,k2,h1,h2,h3,h4,h5⟩:=hb
   show ctr (es.getD a noE) (es.getD c noE)=true
   unfold ctr
   rw [he.1,he.2]
   simp only [k1,k2,h1,h2,h3,h4,h5,beq_self_eq_true,Bool.and_self]
theorem lvD_ok (ds:List Nd):Nmd ⟨plW ds,(varsL ds).length,(arrsL ds).length⟩ (lvD ds):=⟨rfl,rfl⟩
theorem low_chk {ds ss:List Nd} (hd:fitL .D ds) (hs:fitL .S ss) (h:cfgF ds ss=0):chkG (gD ds ss)=0:=by
 unfold cfgF at h
 split at h
 · rename_i hz;exact absurd h hz
 rename_i hz
 have hz:(wellP ds ss).2=0:=by simpa using hz
 obtain ⟨h1,h2,h3⟩:=wellP_ok hz
 have hg:=prog_gd hs hz
 obtain ⟨l1,l2,l3,l4,l5,l6,l7,l8⟩:=low_lo (lvD_ok ds) hg
 have e1:chkG (gD ds ss)=if frm (gD ds ss) then 0 else 92:=by
  unfold chkG
  have e:outF ((gD ds ss).vs.length:Int) (gD ds ss).tmp (gD ds ss).pts ((gD ds ss).es.length:Int)=0:=h
  rw [e]
  simp
 have hf:frm (gD ds ss)=true:=by
  unfold frm
  simp only [Bool.and_eq_true]
  refine ⟨⟨⟨?_,?_⟩,?_⟩,?_⟩
  · unfold sizedG
    simp only [Bool.and_eq_true,decide_eq_true_eq]
    refine ⟨arrs_few h2,List.all_eq_true.2 fun x hx=>?_⟩
    obtain ⟨hm,hne⟩:=arrsL_mem hx
    have a1:=decl_sz h2 x hm
    have a2:=gsizes_ok hd h1 x hm
    unfold szD
    simp only [Bool.and_eq_true,decide_eq_true_eq]
    omega
  · unfold amg
    simp only [Bool.and_eq_true,decide_eq_true_eq]
    exact ⟨l6,l7⟩
  · refine List.all_eq_true.2 fun e he=>?_
    have he':e ∈ flat (lowB (lvD ds) ss):=by rw [← l1];exact he
    obtain ⟨b,hb,heb⟩:=List.mem_flatMap.1 he'
    have hp:=l3 b.pt (List.mem_map_of_mem hb)
    have hx:=Bt.fr_all (l4 b hb) e heb
    exact edR_of (l5 b hb e heb) (by rw [hx];exact hp.2.2)
  · refine List.all_eq_true.2 fun p hp=>?_
    by_cases hq:(p:Int) ∈ ptsB (lowB (lvD ds) ss)
    · obtain ⟨b,hb,hbp⟩:=pt_mem hq
      have:=outE_some _ l4 l2 b hb
      rw [hbp,← l1] at this
      exact tog_of (l4 b hb) this
    · have:=outE_none _ l4 (p:Int) hq
      rw [← l1] at this
      have hm:=outL_map (lowD ds ss).eds p
      have this:outE (lowD ds ss).eds (p:Int)=[]:=this
      rw [this,List.map_eq_nil_iff] at hm
      show tog (lowD ds ss).eds (outL (lowD ds ss).eds p)=true
      rw [hm]
      rfl
 rw [e1,hf]
 rfl
theorem sim_eq {C:Cx} {t s:Rn} (h:Sim C t s):({ s with vars:=s.vars.take C.nv }:Rn)=t:=by
 have hl:(s.vars.take C.nv).length=t.vars.length:=by
  have:=h.len
  have:=h.T0
  have:=h.tlen
  rw [List.length_take];omega
 have hv:s.vars.take C.nv=t.vars:=by
  refine List.ext_getElem hl fun i h1 h2=>?_
  have hi:i<C.nv:=by rw [← h.tlen];exact h2
  have:=h.v i hi
  rw [List.getElem_take]
  rw [List.getD_eq_getElem?_getD,List.getD_eq_getElem?_getD,List.getElem?_eq_getElem h2,List.getElem?_eq_getElem (by rw [List.length_take] at h1;omega)] at this
  exact this
 rw [hv,h.arrs,h.evs,h.steps,h.left]
theorem low_runs {ds ss:List Nd} (hs:fitL .S ss) (hz:(wellP ds ss).2=0) (sc:List Int) {k:Int} (_hk:0≤k):srunO (gD ds ss) sc k=runO ds ss sc k:=by
 have hg:=prog_gd hs hz
 obtain ⟨l1,l2,l3,l4,l5,l6,l7,l8⟩:=low_lo (lvD_ok ds) hg
 obtain ⟨C,hC⟩:∃ C:Cx,C=⟨(lowD ds ss).eds,k.toNat,(varsL ds).length,(lowD ds ss).tmp,⟨plW ds,(varsL ds).length,(arrsL ds).length⟩,lvD ds⟩:=⟨_,rfl⟩
 have hCe:C.es=(lowD ds ss).eds:=by rw [hC]
 have hCE:C.E=lvD ds:=by rw [hC]
 have hCG:C.G=⟨plW ds,(varsL ds).length,(arrsL ds).length⟩:=by rw [hC]
 have hCok:C.ok:=by rw [hC];exact ⟨lvD_ok ds,rfl⟩
 have hx:outE C.es (lowD ds ss).ext=[]:=by
  rw [hCe]
  have:=outE_none _ l4 (lowD ds ss).ext (fun h=>(l3 _ h).2.2 rfl)
  rw [← l1] at this
  exact this
 have hb:InB C (lowB (lvD ds) ss):=fun b hb=>⟨(l3 b.pt (List.mem_map_of_mem hb)).1,l4 b hb,by rw [hCe];have:=outE_some _ l4 l2 b hb;rw [← l1] at this;exact this⟩
 have hsim:Sim C (runS ds sc) (startG (gD ds ss) sc):=by
  rw [hC]
  refine ⟨rfl,rfl,rfl,rfl,Nat.zero_le _,?_,l8,?_,fun i hi=>?_⟩
  · show ((List.replicate (gD ds ss).nv.toNat (0:Int)).length:Int)=((varsL ds).length:Int)+(lowD ds ss).tmp
    rw [List.length_replicate,gD_nv]
    have l8:0≤(lowD ds ss).tmp:=l8
    omega
  · show (List.replicate (varsL ds).length (0:Int)).length=_
    rw [List.length_replicate]
  · show (List.replicate (gD ds ss).nv.toNat (0:Int)).getD i 0=(List.replicate (varsL ds).length (0:Int)).getD i 0
    rw [rep_getD,rep_getD]
 have hgl:gdL C.G .S ss:=by rw [hCG];exact hg
 have hlw:=blk_sim (lwL_sim hCok ss hgl)
 have hfin:srunG (gD ds ss) sc k=C.fin 0 (startG (gD ds ss) sc):=by rw [hC];rfl
 have hboth:Both C (stL C.rv ss (runS ds sc)) (C.fin 0 (startG (gD ds ss) sc)) (fun _ _ s'=>C.fin 0 (startG (gD ds ss) sc)=C.fin (lowD ds ss).ext s'):=by
  cases ss with
  | nil =>
    have h:=hlw 0 0 ⟨1,0,0,[]⟩ (runS ds sc) (startG (gD ds []) sc) (by decide) (by decide) (by decide) (by decide) (by decide) (by decide) (by decide)
    have e:lowD ds []=blkF 0 (lwL (lvD ds) []) 0 0 ⟨1,0,0,[]⟩:=rfl
    have e2:lowB (lvD ds) []=blkB 0 (lwBL (lvD ds) []) 0 0 ⟨1,0,0,[]⟩:=rfl
    have he:(lowD ds []).ext=0:=rfl
    rw [he] at hx ⊢
    rw [hCE] at h
    exact h hx (fun _=>rfl) hsim (by rw [e2] at hb;exact hb) (by rw [hC];exact Int.le_refl _)
  | cons x r =>
    have h:=hlw 0 1 ⟨2,0,1,[]⟩ (runS ds sc) (startG (gD ds (x :: r)) sc) (by decide) (by decide) (by decide) (by decide) (by decide) (by decide) (by decide)
    have e:lowD ds (x :: r)=blkF (x :: r).length (lwL (lvD ds) (x :: r)) 0 1 ⟨2,0,1,[]⟩:=rfl
    have e2:lowB (lvD ds) (x :: r)=blkB (x :: r).length (lwBL (lvD ds) (x :: r)) 0 1 ⟨2,0,1,[]⟩:=rfl
    have hX:=(blk_lo (lwL_lo (lvD_ok ds) (x :: r) hg) 0 1 ⟨2,0,1,[]⟩ (by decide) (by decide) (by decide) (by decide) (by decide) (by decide) (by decide)).ext
    have he:(lowD ds (x :: r)).ext=1:=by rw [e];exact hX
    rw [he] at hx ⊢
    rw [hCE] at h
    exact h hx (fun h=>by cases h) hsim (by rw [e2] at hb;exact hb) (by rw [hC];exact Int.le_refl _)
 have hrv:C.rv=⟨plW ds,k.toNat⟩:=by rw [hC];rfl
 rw [hrv] at hboth
 have hnv:C.nv=(gD ds ss).vs.length:=by rw [hC];rfl
 unfold runO srunO
 rw [hfin]
 cases hr:stL ⟨plW ds,k.toNat⟩ ss (runS ds sc) with
 | go a t =>
   rw [hr] at hboth
   obtain ⟨s',hs',he⟩:=hboth
   have hle:s'.steps≤C.most:=by rw [hs'.steps];exact hs'.le
   have hn:=none_step (most:=C.most) hx l6 hle
   have he:C.fin 0 (startG (gD ds ss) sc)=(2,0,(lowD ds ss).ext,s'):=by rw [he];exact hn
   rw [he]
   show (2,0,({ s' with vars:=s'.vars.take (gD ds ss).vs.length }:Rn))=(2,0,t)
   rw [← hnv,sim_eq hs']
 | stop st wr t =>
   rw [hr] at hboth
   obtain ⟨p,s',he,hs'⟩:=hboth
   rw [he]
   show (st,wr,({ s' with vars:=s'.vars.take (gD ds ss).vs.length }:Rn))=(st,wr,t)
   rw [← hnv,sim_eq hs']
end Go.Proofs.YtmohmggnjldddaaGreatDoor
