/-
  Plain: a program's run as a tree and as a graph are one: conditions, statements.
-/
import Derived.Test.YtmohmggnjldddaaGreatDoorQLwC
import Derived.Test.YtmohmggnjldddaaGreatDoorQCfgF
import Derived.Test.YtmohmggnjldddaaGreatDoorQAbb
namespace Go.Proofs.YtmohmggnjldddaaGreatDoor
open Go Go.RowKit
structure Cx where
 es:List Ed
 most:Nat
 nv:Nat
 T:Int
 G:Gd
 E:Lv
structure Sim (C:Cx) (t s:Rn):Prop where
 arrs:s.arrs=t.arrs
 evs:s.evs=t.evs
 steps:s.steps=t.steps
 left:s.left=t.left
 le:t.steps≤C.most
 len:(s.vars.length:Int)=C.nv+C.T
 T0:0≤C.T
 tlen:t.vars.length=C.nv
 v:∀ i:Nat,i<C.nv→s.vars.getD i 0=t.vars.getD i 0
def Keep (K:Int) (s s':Rn):Prop:=∀ i:Nat,(i:Int)<K→s'.vars.getD i 0=s.vars.getD i 0
theorem Keep.refl (K:Int) (s:Rn):Keep K s s:=fun _ _=>rfl
theorem Keep.trans {K K':Int} {a b c:Rn} (h:Keep K a b) (h':Keep K' b c) (hk:K≤K'):Keep K a c:=fun i hi=>(h' i (by omega)).trans (h i hi)
structure Cx.ok (C:Cx):Prop where
 nm:Nmd C.G C.E
 nv:C.E.nv=C.nv
def InB (C:Cx) (bs:List Bt):Prop:=∀ b ∈ bs,0≤b.pt∧b.ok∧outE C.es b.pt=b.eds
theorem InB.left {C:Cx} {a b:List Bt} (h:InB C (a++b)):InB C a:=fun x hx=>h x (List.mem_append_left _ hx)
theorem InB.right {C:Cx} {a b:List Bt} (h:InB C (a++b)):InB C b:=fun x hx=>h x (List.mem_append_right _ hx)
def Cx.rv (C:Cx):Rv:=⟨C.E.pl,C.most⟩
def Cx.fin (C:Cx) (p:Int) (s:Rn):Gx:=finG C.most C.es p s
def Both {α:Type} (C:Cx) (r:Res α) (c:Gx) (Q:α→Rn→Rn→Prop):Prop:=match r with
 | .go a t=>∃ s,Sim C t s∧Q a t s
 | .stop st wr t=>∃ p s,c=(st,wr,p,s)∧Sim C t s
theorem Both.bind {α β:Type} {C:Cx} {r:Res α} {f:α→Rn→Res β} {c:Gx} {Q:α→Rn→Rn→Prop} {Q':β→Rn→Rn→Prop} (h:Both C r c Q) (hf:∀ a t s,Sim C t s→Q a t s→Both C (f a t) c Q'):Both C (r.bind f) c Q':=by
 cases r with
 | go a t =>
   obtain ⟨s,h1,h2⟩:=h
   exact hf a t s h1 h2
 | stop st wr t=>exact h
theorem Both.mono {α:Type} {C:Cx} {r:Res α} {c:Gx} {Q Q':α→Rn→Rn→Prop} (h:Both C r c Q) (hf:∀ a t s,Sim C t s→Q a t s→Q' a t s):Both C r c Q':=by
 cases r with
 | go a t =>
   obtain ⟨s,h1,h2⟩:=h
   exact ⟨s,h1,hf a t s h1 h2⟩
 | stop st wr t=>exact h
theorem Both.eq {α:Type} {C:Cx} {r:Res α} {c c':Gx} {Q:α→Rn→Rn→Prop} (h:Both C r c Q) (e:c'=c):Both C r c' Q:=e ▸ h
theorem tick_sim {C:Cx} {t s:Rn} (h:Sim C t s) (hn:t.steps≠C.most):Sim C (tick t) (tick s) :=
 ⟨h.arrs,h.evs,by show s.steps+1=t.steps+1;rw [h.steps],h.left,by show t.steps+1≤C.most;have:=h.le;omega,h.len,h.T0,h.tlen,h.v⟩
theorem step_eq (C:Cx) (t:Rn):stepR C.rv t=if t.steps=C.most then .stop 1 0 t else .go () (tick t):=rfl
theorem step_both {C:Cx} {t s:Rn} {e:Ed} (hs:Sim C t s) (hb:InB C [.one e]) (hk9:e.kd=9→s.left≠[]):Both C (stepR C.rv t) (C.fin e.fr s) (fun _ t' s'=>t'=tick t∧s'=tick s∧C.fin e.fr s=if (doE e s').1=0 then C.fin e.dt (doE e s').2 else (3,(doE e s').1,e.fr,(doE e s').2)):=by
 obtain ⟨h0,h1,h2⟩:=hb _ (List.mem_singleton.2 rfl)
 have h:=one_step (most:=C.most) (es:=C.es) (e:=e) (s:=s) h2 h1 h0 (by rw [hs.steps];exact hs.le)
 rw [if_neg (fun h=>hk9 h.1 h.2),hs.steps] at h
 rw [step_eq]
 by_cases hm:t.steps=C.most
 · rw [if_pos hm] at h ⊢
   exact ⟨_,_,h,hs⟩
 · rw [if_neg hm] at h ⊢
   exact ⟨_,tick_sim hs hm,rfl,rfl,h⟩
theorem putS_sim {C:Cx} {t s:Rn} (hs:Sim C t s) {d v:Int} (hd:(C.nv:Int)≤d):Sim C t (putS s d v) :=
 ⟨hs.arrs,hs.evs,hs.steps,hs.left,hs.le,by show ((s.vars.set d.toNat v).length:Int)=_;rw [List.length_set];exact hs.len,hs.T0,hs.tlen,fun i hi=>by
  show (s.vars.set d.toNat v).getD i 0=_
  rw [List.getD_eq_getElem?_getD,List.getElem?_set_ne (by omega),← List.getD_eq_getElem?_getD]
  exact hs.v i hi⟩
theorem putS_keep {s:Rn} {d v:Int} (h0:0≤d):Keep d s (putS s d v):=fun i hi=>by
 show (s.vars.set d.toNat v).getD i 0=_
 rw [List.getD_eq_getElem?_getD,List.getElem?_set_ne (by omega),← List.getD_eq_getElem?_getD]
theorem putS_val {s:Rn} {d v m:Int} (h0:0≤d) (h1:d<s.vars.length):valO (putS s d v) d m=v:=by
 unfold valO putS
 rw [if_neg (by omega)]
 simp only
 rw [List.getD_eq_getElem?_getD,List.getElem?_set_self (by omega)]
 rfl
theorem putV_sim {C:Cx} {t s:Rn} (hs:Sim C t s) {nm:ByteArray} (hd:C.E.pl nm<C.nv) (v:Int):Sim C (putV C.rv nm v t) (putS s (C.E.pl nm:Int) v) :=
 ⟨hs.arrs,hs.evs,hs.steps,hs.left,hs.le,by show ((s.vars.set _ v).length:Int)=_;rw [List.length_set];exact hs.len,hs.T0,by show (t.vars.set _ v).length=_;rw [List.length_set];exact hs.tlen,fun i hi=>by
  show (s.vars.set (C.E.pl nm:Int).toNat v).getD i 0=(t.vars.set (C.E.pl nm) v).getD i 0
  rw [Int.toNat_natCast,List.getD_eq_getElem?_getD,List.getD_eq_getElem?_getD,List.getElem?_set,List.getElem?_set]
  by_cases e:C.E.pl nm=i
  · subst e
    have h1:=hs.len
    have h2:=hs.tlen
    rw [if_pos rfl,if_pos rfl]
    by_cases h3:C.E.pl nm<s.vars.length
    · rw [if_pos h3,if_pos (by omega)]
    · rw [if_neg h3]
      have:C.E.pl nm<t.vars.length:=by omega
      rw [if_pos this]
      exfalso
      have h4:=hs.T0
      omega
  · rw [if_neg e,if_neg e,← List.getD_eq_getElem?_getD,← List.getD_eq_getElem?_getD]
    exact hs.v i hi⟩
theorem valO_keep {K:Int} {s s':Rn} (h:Keep K s s') {v n:Int} (hv:v<K):valO s' v n=valO s v n:=by
 unfold valO
 by_cases h0:v<0
 · rw [if_pos h0,if_pos h0]
 · rw [if_neg h0,if_neg h0]
   exact h v.toNat (by omega)
theorem num_both {C:Cx} {t s:Rn} {e:Ed} {k a b K:Int} (hs:Sim C t s) (hb:InB C [.one e]) (hk:e.kd+2=k) (h3:3≤e.kd∧e.kd≤8) (ha:edVa e s=a) (hb':edVb e s=b) :
    Both C (doK C.rv k a b t) (C.fin e.fr s) (fun v _ s'=>Keep K s s'∧C.fin e.fr s=C.fin e.dt (putS s' e.dst v)):=by
 unfold doK
 refine (step_both hs hb (fun h=>by omega)).bind ?_
 rintro _ t1 s1 h1 ⟨rfl,rfl,h2⟩
 have hd:doE e (tick s)=if (numK k a b).2=0 then (0,putS (tick s) e.dst (numK k a b).1) else ((numK k a b).2,tick s):=by
  unfold doE
  rw [if_neg (by omega),if_pos h3,hk,show edVa e (tick s)=a from ha,show edVb e (tick s)=b from hb']
 rw [hd] at h2
 by_cases hz:(numK k a b).2=0
 · rw [if_pos hz] at h2 ⊢
   exact ⟨tick s,h1,fun _ _=>rfl,h2⟩
 · rw [if_neg hz] at h2 ⊢
   simp only [hz,if_false] at h2
   exact ⟨_,_,h2,h1⟩
def OpS (C:Cx) (x:Nd):Prop:=∀ (q d:Int) (s0:Lw) (t s:Rn),0≤q→q<s0.pts→0≤d→0≤s0.tmp→Sim C t s→InB C (opB C.E x q d s0)→(opN C.E x q d s0).2.2.tmp≤C.T →
 Both C (valN C.rv x t) (C.fin q s) (fun v _ s'=>Keep (C.nv+d) s s'∧valO s' (opN C.E x q d s0).1.1 (opN C.E x q d s0).1.2=v∧C.fin q s=C.fin (opN C.E x q d s0).2.1 s')
theorem two_both {C:Cx} (hC:C.ok) {a b:Nd} {f d:Int} {s0:Lw} {t s:Rn} (ga:gdN C.G a) (gb:gdN C.G b) (ta:a.ty=.E) (tb:b.ty=.E) (oa:OpS C a) (ob:OpS C b) (hf:0≤f∧f<s0.pts) (hd:0≤d) (h0:0≤s0.tmp) (hs:Sim C t s) (hb:InB C (opsB C.E [a,b] f d s0)) (hT:(opsL C.E [a,b] f d s0).2.2.tmp≤C.T)
    {α:Type} {g:Int→Int→Rn→Res α} {Q:α→Rn→Rn→Prop}
    (hg:∀ v u t2 s2,Sim C t2 s2→Keep (C.nv+d) s s2→valO s2 (op0 (opsL C.E [a,b] f d s0).1).1 (op0 (opsL C.E [a,b] f d s0).1).2=v→valO s2 (op1 (opsL C.E [a,b] f d s0).1).1 (op1 (opsL C.E [a,b] f d s0).1).2=u→C.fin f s=C.fin (opsL C.E [a,b] f d s0).2.1 s2→Both C (g v u t2) (C.fin f s) Q) :
    Both C ((valN C.rv a t).bind fun v t=>(valN C.rv b t).bind fun u t=>g v u t) (C.fin f s) Q:=by
 have h1:=opN_lo hC.nm a f d s0 ga ta hf.1 hf.2 hd h0
 have n1:=next_le C.E (opN C.E a f d s0).1 d
 have hT1:=h1.lo.tmp
 have h2:=opN_lo hC.nm b (opN C.E a f d s0).2.1 (nextD C.E (opN C.E a f d s0).1 d) (opN C.E a f d s0).2.2 gb tb h1.x0 h1.x1 (by omega) (by omega)
 have hT2:=h2.lo.tmp
 have e1:(opsL C.E [a,b] f d s0).1=[(opN C.E a f d s0).1,(opN C.E b (opN C.E a f d s0).2.1 (nextD C.E (opN C.E a f d s0).1 d) (opN C.E a f d s0).2.2).1]:=by rw [opsL,opsL,opsL]
 have e2:(opsL C.E [a,b] f d s0).2=(opN C.E b (opN C.E a f d s0).2.1 (nextD C.E (opN C.E a f d s0).1 d) (opN C.E a f d s0).2.2).2:=by rw [opsL,opsL,opsL]
 have e3:opsB C.E [a,b] f d s0=opB C.E a f d s0++(opB C.E b (opN C.E a f d s0).2.1 (nextD C.E (opN C.E a f d s0).1 d) (opN C.E a f d s0).2.2++[]):=by rw [opsB,opsB,opsB]
 rw [e1,e2] at hg
 rw [e2] at hT
 rw [e3] at hb
 have od:=h1.od
 rw [hC.nv] at od
 refine (oa f d s0 t s hf.1 hf.2 hd h0 hs hb.left (by omega)).bind ?_
 rintro v t1 s1 k1 ⟨p1,p2,p3⟩
 refine Both.bind ((ob _ _ _ t1 s1 h1.x0 h1.x1 (by omega) (by omega) k1 hb.right.left hT).eq p3) ?_
 rintro u t2 s2 k2 ⟨q1,q2,q3⟩
 refine hg v u t2 s2 k2 (p1.trans (fun i hi=>q1 i (by omega)) (Int.le_refl _)) ?_ ?_ (p3.trans q3)
 · rw [← p2]
   exact valO_keep q1 od
 · exact q2
theorem one_both {C:Cx} {a:Nd} {f d:Int} {s0:Lw} {t s:Rn} (oa:OpS C a) (hf:0≤f∧f<s0.pts) (hd:0≤d) (h0:0≤s0.tmp) (hs:Sim C t s) (hb:InB C (opsB C.E [a] f d s0)) (hT:(opsL C.E [a] f d s0).2.2.tmp≤C.T)
    {α:Type} {g:Int→Rn→Res α} {Q:α→Rn→Rn→Prop}
    (hg:∀ v t2 s2,Sim C t2 s2→Keep (C.nv+d) s s2→valO s2 (op0 (opsL C.E [a] f d s0).1).1 (op0 (opsL C.E [a] f d s0).1).2=v→(op1 (opsL C.E [a] f d s0).1)=(-1,0)→C.fin f s=C.fin (opsL C.E [a] f d s0).2.1 s2→Both C (g v t2) (C.fin f s) Q) :
    Both C ((valN C.rv a t).bind g) (C.fin f s) Q:=by
 have e1:(opsL C.E [a] f d s0).1=[(opN C.E a f d s0).1]:=by rw [opsL,opsL]
 have e2:(opsL C.E [a] f d s0).2=(opN C.E a f d s0).2:=by rw [opsL,opsL]
 have e3:opsB C.E [a] f d s0=opB C.E a f d s0++[]:=by rw [opsB,opsB]
 rw [e1,e2] at hg
 rw [e2] at hT
 rw [e3] at hb
 refine (oa f d s0 t s hf.1 hf.2 hd h0 hs hb.left hT).bind ?_
 rintro v t1 s1 k1 ⟨p1,p2,p3⟩
 exact hg v t1 s1 k1 p1 p2 rfl p3
theorem into_sim {C:Cx} (hC:C.ok) {x:Nd} (hg:gdN C.G x) (hty:x.ty=.E) (hn:simN C.E x=none) (hargs:∀ y ∈ argsN x,OpS C y) {dst f tgt d:Int} {s0:Lw} {t s:Rn} (hf:0≤f∧f<s0.pts) (hd:0≤d) (h0:0≤s0.tmp) (hs:Sim C t s) (hb:InB C (intoB C.E x dst f tgt d s0)) (hT:(intoN C.E x dst f tgt d s0).tmp≤C.T) :
    Both C (valN C.rv x t) (C.fin f s) (fun v _ s'=>Keep (C.nv+d) s s'∧C.fin f s=C.fin tgt (putS s' dst v)):=by
 obtain ⟨ty,k,n,nm,xs,cs,ts,es⟩:=x
 simp only [Nd.ty] at hty
 subst hty
 unfold gdN at hg
 obtain ⟨⟨k1,k10,-,kl3,kl5,kl6,-,ka⟩,hxs,-⟩:=hg
 obtain ⟨n1,n2,n3⟩:=sim_none (show simK C.E k nm (conK k n xs)=none from hn)
 simp only [argsN] at hargs
 unfold intoB at hb
 unfold intoN at hT
 simp only [argsN,kindN,nameN] at hb hT
 change (opsL C.E xs f d s0).2.2.tmp≤C.T at hT
 rw [valN,n3]
 unfold valK
 simp only
 rw [if_neg n2]
 have hc:k=3∨k=4∨k=5∨6≤k:=by omega
 rcases hc with rfl | rfl | rfl | h6
 · obtain rfl:xs=[]:=List.eq_nil_of_length_eq_zero (kl3 (by omega))
   rw [opsL] at hb
   have hb1:=hb.right
   rw [if_pos rfl]
   obtain ⟨e,he⟩:∃ e,lastE C.E 3 nm dst f tgt []=e:=⟨_,rfl⟩
   rw [he] at hb1
   have ek:e.kd=9:=by rw [← he];rfl
   have ef:e.fr=f:=by rw [← he];rfl
   have et:e.dt=tgt:=by rw [← he];rfl
   have ed:e.dst=dst:=by rw [← he];rfl
   unfold inputR
   cases hl:t.left with
   | nil =>
     obtain ⟨g0,g1,g2⟩:=hb1 _ (List.mem_singleton.2 rfl)
     have h:=one_step (most:=C.most) (es:=C.es) (e:=e) (s:=s) g2 g1 g0 (by rw [hs.steps];exact hs.le)
     rw [if_pos ⟨ek,by rw [hs.left,hl]⟩,ef] at h
     exact ⟨_,_,h,hs⟩
   | cons y r =>
     simp only
     have h:=step_both hs hb1 (fun _=>by rw [hs.left,hl];simp)
     rw [ef] at h
     refine h.bind ?_
     rintro _ t1 s1 h1 ⟨rfl,rfl,h2⟩
     have hd:doE e (tick s)=(0,putS (inS (tick s)) dst y):=by
      unfold doE
      rw [ek,ed,show (tick s).left=y :: r by rw [← hl];exact hs.left]
      rfl
     rw [hd,et] at h2
     refine ⟨inS (tick s),⟨h1.arrs,?_,h1.steps,?_,h1.le,h1.len,h1.T0,h1.tlen,h1.v⟩,fun _ _=>rfl,h2⟩
     · show (tick s).evs++[(true,(tick s).left.headD 0,false)]=(tick t).evs++[(true,y,false)]
       rw [h1.evs,show (tick s).left=y :: r by rw [← hl];exact hs.left]
       rfl
     · show (tick s).left.tail=r
       rw [show (tick s).left=y :: r by rw [← hl];exact hs.left]
       rfl
 · obtain ⟨a,rfl⟩:=List.length_eq_one_iff.1 (kl5 (.inl rfl))
   rw [if_neg (by omega),if_pos rfl]
   have ef:fnR (valL C.rv [a]) 0=valN C.rv a:=by rw [valL,valL];rfl
   rw [ef]
   refine one_both (hargs a (by simp)) hf hd h0 hs hb.left hT ?_
   intro v t2 s2 k2 p1 p2 p3 p4
   have hb1:=hb.right
   obtain ⟨e,he⟩:∃ e,lastE C.E 4 nm dst (opsL C.E [a] f d s0).2.1 tgt (opsL C.E [a] f d s0).1=e:=⟨_,rfl⟩
   rw [he] at hb1
   have ek:e.kd=10:=by rw [← he];rfl
   have ef:e.fr=(opsL C.E [a] f d s0).2.1:=by rw [← he];rfl
   have et:e.dt=tgt:=by rw [← he];rfl
   have ed:e.dst=dst:=by rw [← he];rfl
   have ea:edVa e s2=v:=by rw [← he];exact p2
   have er:e.arr=(C.E.pl nm:Int):=by rw [← he];rfl
   unfold itemR
   rw [← ef] at p4
   refine Both.eq ?_ p4
   rw [p4]
   refine Both.bind (Q:=fun j t3 s3=>Keep (C.nv+d) s s3∧C.fin e.fr s2=C.fin tgt (putS s3 dst ((t3.arrs.getD (C.rv.pl nm) []).getD j 0))) ?_ ?_
   · refine (step_both k2 hb1 (fun h=>by omega)).bind ?_
     rintro _ t1 s1 h1 ⟨rfl,rfl,h2⟩
     have har:arrO (tick s2) e.arr=(tick t2).arrs.getD (C.rv.pl nm) []:=by unfold arrO;rw [er,Int.toNat_natCast,h1.arrs];rfl
     have hdo:doE e (tick s2)=if v<0∨(((tick t2).arrs.getD (C.rv.pl nm) []).length:Int)≤v then (3,tick s2) else (0,putS (tick s2) dst (((tick t2).arrs.getD (C.rv.pl nm) []).getD v.toNat 0)):=by
      unfold doE
      rw [if_neg (by omega),if_neg (by omega),if_neg (by omega),if_pos ek,har,show edVa e (tick s2)=v from ea,ed]
     rw [hdo,et] at h2
     by_cases hz:v<0∨(((tick t2).arrs.getD (C.rv.pl nm) []).length:Int)≤v
     · rw [if_pos hz] at h2 ⊢
       exact ⟨_,_,h2,h1⟩
     · rw [if_neg hz] at h2 ⊢
       exact ⟨tick s2,h1,p1,h2⟩
   · rintro j t3 s3 k3 ⟨q1,q2⟩
     exact ⟨s3,k3,q1,q2⟩
 · obtain ⟨a,rfl⟩:=List.length_eq_one_iff.1 (kl5 (.inr rfl))
   rw [if_neg (by omega),if_neg (by omega),if_pos rfl]
   have ef:fnR (valL C.rv [a]) 0=valN C.rv a:=by rw [valL,valL];rfl
   rw [ef]
   refine one_both (hargs a (by simp)) hf hd h0 hs hb.left hT ?_
   intro v t2 s2 k2 p1 p2 p3 p4
   have hb1:=hb.right
   obtain ⟨e,he⟩:∃ e,lastE C.E 5 nm dst (opsL C.E [a] f d s0).2.1 tgt (opsL C.E [a] f d s0).1=e:=⟨_,rfl⟩
   rw [he] at hb1
   have ek:e.kd=3:=by rw [← he];rfl
   have ef:e.fr=(opsL C.E [a] f d s0).2.1:=by rw [← he];rfl
   have et:e.dt=tgt:=by rw [← he];rfl
   have ed:e.dst=dst:=by rw [← he];rfl
   have ea:edVa e s2=v:=by rw [← he];exact p2
   have eb:edVb e s2=0:=by
    rw [← he]
    unfold edVb lastE
    simp only [p3]
    rfl
   have hn:=num_both (K:=C.nv+d) k2 hb1 (k:=5) (by omega) (by omega) ea eb
   rw [ef,← p4,et,ed] at hn
   exact hn.mono fun u t3 s3 _ h=>⟨p1.trans h.1 (Int.le_refl _),h.2⟩
 · obtain ⟨a,b,rfl⟩:=len2 (kl6 h6)
   rw [if_neg (by omega),if_neg (by omega),if_neg (by omega)]
   have efa:fnR (valL C.rv [a,b]) 0=valN C.rv a:=by rw [valL,valL,valL];rfl
   have efb:fnR (valL C.rv [a,b]) 1=valN C.rv b:=by rw [valL,valL,valL];rfl
   rw [efa,efb]
   unfold gdL at hxs
   obtain ⟨ta,ga,hxs⟩:=hxs
   unfold gdL at hxs
   obtain ⟨tb,gb,-⟩:=hxs
   refine two_both hC ga gb ta tb (hargs a (by simp)) (hargs b (by simp)) hf hd h0 hs hb.left hT ?_
   intro v u t2 s2 k2 p1 p2 p3 p4
   have hb1:=hb.right
   obtain ⟨e,he⟩:∃ e,lastE C.E k nm dst (opsL C.E [a,b] f d s0).2.1 tgt (opsL C.E [a,b] f d s0).1=e:=⟨_,rfl⟩
   rw [he] at hb1
   have ek:e.kd=k - 2:=by rw [← he];unfold lastE kindK;simp only;rw [if_neg (by omega),if_neg (by omega)]
   have ef:e.fr=(opsL C.E [a,b] f d s0).2.1:=by rw [← he];rfl
   have et:e.dt=tgt:=by rw [← he];rfl
   have ed:e.dst=dst:=by rw [← he];rfl
   have ea:edVa e s2=v:=by rw [← he];exact p2
   have eb:edVb e s2=u:=by rw [← he];exact p3
   have hn:=num_both (K:=C.nv+d) k2 hb1 (k:=k) (by omega) (by omega) ea eb
   rw [ef,← p4,et,ed] at hn
   exact hn.mono fun u t3 s3 _ h=>⟨p1.trans h.1 (Int.le_refl _),h.2⟩
mutual
theorem opN_sim {C:Cx} (hC:C.ok):∀ (x:Nd),gdN C.G x→x.ty=.E→OpS C x
 | .mk ty k n nm xs cs ts es,hg,hty=>by
   simp only [Nd.ty] at hty
   subst hty
   have hg':=hg
   unfold gdN at hg'
   obtain ⟨⟨-,-,-,-,-,-,kv,-⟩,hxs,-⟩:=hg'
   intro q d s0 t s hq hqs hd h0 hs hb hT
   cases hsim:simK C.E k nm (conK k n xs) with
   | some o =>
     have hs':simN C.E (.mk .E k n nm xs cs ts es)=some o:=hsim
     rw [opN_some hs']
     rw [valN]
     unfold simK at hsim
     cases hc:conK k n xs with
     | some m =>
       rw [hc] at hsim
       cases hsim
       exact ⟨s,hs,Keep.refl _ _,rfl,rfl⟩
     | none =>
       rw [hc] at hsim
       simp only at hsim
       split at hsim
       · rename_i hk
         cases hsim
         unfold valK
         simp only
         rw [if_pos hk]
         have hv:=kv hk
         rw [hC.nm.pl,hC.nm.nv,hC.nv] at hv
         refine ⟨s,hs,Keep.refl _ _,?_,rfl⟩
         unfold valO
         rw [if_neg (by omega),Int.toNat_natCast]
         exact hs.v _ hv
       · cases hsim
   | none =>
     have hs':simN C.E (.mk .E k n nm xs cs ts es)=none:=hsim
     have hlo:=opN_lo hC.nm (.mk .E k n nm xs cs ts es) q d s0 hg rfl hq hqs hd h0
     rw [opN_none hs'] at hT hlo ⊢
     rw [opB_none hs'] at hb
     have hops:=opsL_lo hC.nm xs q d (s0.temp d).fresh hxs hq (by show q<s0.pts+1;omega) hd (by show 0≤max s0.tmp (d+1);omega)
     have hin:=into_lo hC.nm (x:=.mk .E k n nm xs cs ts es) (dst:=C.E.nv+d) (f:=q) (t:=s0.pts) (d:=d) (s:=(s0.temp d).fresh) hg rfl hs' ⟨by omega,by show (C.E.nv:Int)+d<C.E.nv+max s0.tmp (d+1);omega⟩ ⟨hq,by show q<s0.pts+1;omega⟩ ⟨by omega,by show s0.pts<s0.pts+1;omega⟩ hops
     have htm:=hin.tmp
     change max s0.tmp (d+1)≤_ at htm
     have hmain:=into_sim hC hg rfl hs' (fun y hy=>opL_sim hC xs hxs y hy) ⟨hq,by show q<s0.pts+1;omega⟩ hd (by show 0≤max s0.tmp (d+1);omega) hs hb hT
     cases hv:valN C.rv (.mk .E k n nm xs cs ts es) t with
     | stop st wr t' =>
       rw [hv] at hmain
       exact hmain
     | go v t' =>
       rw [hv] at hmain
       obtain ⟨s',g1,g2,g3⟩:=hmain
       have hlen:=g1.len
       simp only at hT
       refine ⟨putS s' (C.E.nv+d) v,putS_sim g1 (by rw [hC.nv];omega),?_,putS_val (by omega) (by rw [hlen,hC.nv];omega),g3⟩
       exact g2.trans (by rw [← hC.nv];exact putS_keep (by omega)) (Int.le_refl _)
theorem opL_sim {C:Cx} (hC:C.ok):∀ (l:List Nd),gdL C.G .E l→∀ x ∈ l,OpS C x
 | [],_,x,hx=>by cases hx
 | y :: r,hg,x,hx=>by
   unfold gdL at hg
   rcases List.mem_cons.1 hx with h | h
   · rw [h];exact opN_sim hC y hg.2.1 hg.1
   · exact opL_sim hC r hg.2.2 x h
end
def CdS (C:Cx) (r:Rn→Res Bool) (h:Int→Int→Int→Lw→Lw) (b:Int→Int→Int→Lw→List Bt):Prop:=∀ (f y n:Int) (s0:Lw) (t s:Rn),0≤f→f<s0.pts→0≤y→y<s0.pts→0≤n→n<s0.pts→0≤s0.tmp→Sim C t s→InB C (b f y n s0)→(h f y n s0).tmp≤C.T →
 Both C (r t) (C.fin f s) (fun v _ s'=>C.fin f s=C.fin (if v then y else n) s')
theorem edge_both {C:Cx} {t s:Rn} {f y k:Int} (hk:k=1) (hs:Sim C t s) (hb:InB C [.one (edgeE f y k)]):Both C (stepR C.rv t) (C.fin f s) (fun _ t' s'=>t'=tick t∧C.fin f s=C.fin y s'):=by
 subst hk
 have h:=step_both hs hb (fun h=>by cases h)
 exact h.mono fun _ t' s' _ h=>⟨h.1,by
  have h2:=h.2.2
  rw [h.2.1] at h2 ⊢
  exact h2⟩
theorem cmp_sim {C:Cx} (hC:C.ok) {xs:List Nd} {op:Int} (hxs:gdL C.G .E xs) (hl:xs.length=2) (hop:1≤op∧op≤6) :
    CdS C (fun t=>(fnR (valL C.rv xs) 0 t).bind fun a t=>(fnR (valL C.rv xs) 1 t).bind fun b t=>(stepR C.rv t).bind fun _ t=>.go (cmpB op a b) t) (cmpE C.E op xs) (fun f y n s=>opsB C.E xs f 0 s++[.two (cmp1 C.E op xs f y s) (cmp1 C.E (notI op) xs f n s)]):=by
 obtain ⟨a,b,rfl⟩:=len2 hl
 intro f y n s0 t s f0 f1 y0 y1 n0 n1 h0 hs hb hT
 have hg:=opL_sim hC [a,b] hxs
 unfold gdL at hxs
 obtain ⟨ta,ga,hxs⟩:=hxs
 unfold gdL at hxs
 obtain ⟨tb,gb,-⟩:=hxs
 have efa:fnR (valL C.rv [a,b]) 0=valN C.rv a:=by rw [valL,valL,valL];rfl
 have efb:fnR (valL C.rv [a,b]) 1=valN C.rv b:=by rw [valL,valL,valL];rfl
 simp only [efa,efb]
 refine two_both hC ga gb ta tb (hg a (by simp)) (hg b (by simp)) ⟨f0,f1⟩ (Int.le_refl 0) h0 hs hb.left hT ?_
 intro v u t2 s2 k2 p1 p2 p3 p4
 obtain ⟨g0,g1,g2⟩:=hb.right _ (List.mem_singleton.2 rfl)
 have h:=two_step (most:=C.most) (es:=C.es) (s:=s2) g2 g1.2 hop g0 (by rw [k2.steps];exact k2.le)
 have ea:edVa (cmp1 C.E op [a,b] f y s0) s2=v:=p2
 have eb:edVb (cmp1 C.E op [a,b] f y s0) s2=u:=p3
 rw [ea,eb,k2.steps] at h
 rw [step_eq]
 by_cases hm:t2.steps=C.most
 · rw [if_pos hm] at h ⊢
   exact ⟨_,_,p4.trans h,k2⟩
 · rw [if_neg hm] at h ⊢
   exact ⟨_,tick_sim k2 hm,p4.trans h⟩
theorem and_sim {C:Cx} {r0 r1:Rn→Res Bool} {h0 h1:Int→Int→Int→Lw→Lw} {b0 b1:Int→Int→Int→Lw→List Bt} (g0:CdS C r0 h0 b0) (g1:CdS C r1 h1 b1) (l0:CdLo C.E C.G.na h0 b0) (l1:CdLo C.E C.G.na h1 b1) (or:Bool) {f y n:Int} {s0:Lw} {t s:Rn} (f0:0≤f) (f1:f<s0.pts) (y0:0≤y) (y1:y<s0.pts) (n0:0≤n) (n1:n<s0.pts) (hz:0≤s0.tmp) (hs:Sim C t s) {Y N:Int} (hY:Y=if or then y else s0.pts) (hN:N=if or then s0.pts else n)
    (hb:InB C (b0 f Y N s0.fresh++b1 s0.pts y n (h0 f Y N s0.fresh))) (hT:(h1 s0.pts y n (h0 f Y N s0.fresh)).tmp≤C.T) :
    Both C ((r0 t).bind fun v t=>if v=or then .go or t else r1 t) (C.fin f s) (fun v _ s'=>C.fin f s=C.fin (if v then y else n) s'):=by
 have p1:s0.fresh.pts=s0.pts+1:=rfl
 have t1:s0.fresh.tmp=s0.tmp:=rfl
 have hYN:0≤Y∧Y<s0.pts+1∧0≤N∧N<s0.pts+1:=by cases or<;>simp at hY hN<;>omega
 have k0:=l0 f Y N s0.fresh f0 (by omega) hYN.1 (by omega) hYN.2.2.1 (by omega) (by omega)
 have hP:=k0.pts
 have hT0:=k0.tmp
 have k1:=l1 s0.pts y n (h0 f Y N s0.fresh) (by omega) (by omega) y0 (by omega) n0 (by omega) (by omega)
 have hT1:=k1.tmp
 refine (g0 f Y N s0.fresh t s f0 (by omega) hYN.1 (by omega) hYN.2.2.1 (by omega) (by omega) hs hb.left (by omega)).bind ?_
 intro v t2 s2 k2 p
 by_cases hv:v=or
 · rw [if_pos hv]
   refine ⟨s2,k2,?_⟩
   rw [p,hv]
   cases or<;>simp at hY hN ⊢<;>simp [hY,hN]
 · rw [if_neg hv]
   have e:C.fin f s=C.fin s0.pts s2:=by
    rw [p]
    cases or<;>cases v<;>simp at hv hY hN ⊢<;>simp [hY,hN]
   have g:=g1 s0.pts y n (h0 f Y N s0.fresh) t2 s2 (by omega) (by omega) y0 (by omega) n0 (by omega) (by omega) k2 hb.right hT
   rw [← e] at g
   exact g
mutual
theorem cdN_sim {C:Cx} (hC:C.ok):∀ (x:Nd),gdN C.G x→x.ty=.C→CdS C (hldN C.rv x) (cdN C.E x) (cdB C.E x)
 | .mk ty k m nm xs cs ts es,hg,hty=>by
   simp only [Nd.ty] at hty
   subst hty
   unfold gdN at hg
   obtain ⟨⟨k1,k6,kl3,kl4,kl5⟩,hxs,hcs,-⟩:=hg
   intro f y n s0 t s f0 f1 y0 y1 n0 n1 hz hs hb hT
   rw [cdN] at hT
   rw [cdB] at hb
   rw [hldN]
   unfold cdK at hT
   unfold cdKB at hb
   unfold hldK
   by_cases e1:k=1
   · subst e1
     rw [if_pos rfl] at hb
     simp only [show ¬ ((1:Int)=4) by decide,show ¬ ((1:Int)=5) by decide,show ¬ ((1:Int)=6) by decide,show ¬ ((1:Int)=3) by decide,if_false]
     refine (edge_both rfl hs hb).bind ?_
     rintro _ t2 s2 k2 ⟨-,h⟩
     exact ⟨s2,k2,by simpa using h⟩
   rw [if_neg e1] at hb hT
   by_cases e2:k=2
   · subst e2
     rw [if_pos rfl] at hb
     simp only [show ¬ ((2:Int)=4) by decide,show ¬ ((2:Int)=5) by decide,show ¬ ((2:Int)=6) by decide,show ¬ ((2:Int)=3) by decide,if_false]
     refine (edge_both rfl hs hb).bind ?_
     rintro _ t2 s2 k2 ⟨-,h⟩
     exact ⟨s2,k2,by simpa using h⟩
   rw [if_neg e2] at hb hT
   by_cases e3:k=3
   · subst e3
     rw [if_pos rfl] at hb hT
     simp only [show ¬ ((3:Int)=4) by decide,show ¬ ((3:Int)=5) by decide,show ¬ ((3:Int)=6) by decide,if_false,if_true]
     exact cmp_sim hC hxs (kl3 rfl).1 (kl3 rfl).2 f y n s0 t s f0 f1 y0 y1 n0 n1 hz hs hb hT
   rw [if_neg e3] at hb hT
   by_cases e4:k=4
   · rw [if_pos e4] at hb hT ⊢
     have hl:=kl4 e4
     refine (cdL_sim hC cs hcs 0 (by omega) f n y s0 t s f0 f1 n0 n1 y0 y1 hz hs hb hT).bind ?_
     intro v t2 s2 k2 p
     refine ⟨s2,k2,?_⟩
     rw [p]
     cases v<;>rfl
   rw [if_neg e4] at hb hT ⊢
   have hl:=kl5 (by omega)
   by_cases e5:k=5
   · rw [if_pos e5] at hb hT ⊢
     have h:=and_sim (cdL_sim hC cs hcs 0 (by omega)) (cdL_sim hC cs hcs 1 (by omega)) (cdL_lo hC.nm cs hcs 0 (by omega)) (cdL_lo hC.nm cs hcs 1 (by omega)) false f0 f1 y0 y1 n0 n1 hz hs (Y:=s0.pts) (N:=n) rfl rfl hb hT
     have e:(fun (v:Bool) (t:Rn)=>if v=false then Res.go false t else hnR (hldL C.rv cs) 1 t)=(fun v t=>if v then hnR (hldL C.rv cs) 1 t else Res.go false t):=by
      funext v t
      cases v<;>rfl
     rw [e] at h
     exact h
   rw [if_neg e5] at hb hT ⊢
   rw [if_pos (by omega)]
   exact and_sim (cdL_sim hC cs hcs 0 (by omega)) (cdL_sim hC cs hcs 1 (by omega)) (cdL_lo hC.nm cs hcs 0 (by omega)) (cdL_lo hC.nm cs hcs 1 (by omega)) true f0 f1 y0 y1 n0 n1 hz hs (Y:=y) (N:=s0.pts) rfl rfl hb hT
theorem cdL_sim {C:Cx} (hC:C.ok):∀ (l:List Nd),gdL C.G .C l→∀ (i:Nat),i<l.length→CdS C (hnR (hldL C.rv l) i) (cnR (cdL C.E l) i) (cnB (cdBL C.E l) i)
 | [],_,i,hi=>by simp at hi
 | x :: r,hg,0,_=>by
   unfold gdL at hg
   have:=cdN_sim hC x hg.2.1 hg.1
   unfold hldL hnR cdL cnR cdBL cnB
   exact this
 | x :: r,hg,i+1,hi=>by
   unfold gdL at hg
   have:=cdL_sim hC r hg.2.2 i (by simpa using hi)
   unfold hldL cdL cdBL
   unfold hnR cnR cnB at this ⊢
   simpa using this
end
def BkS (C:Cx) (e:Bool) (r:Rn→Res Unit) (h:Int→Int→Lw→Lw) (b:Int→Int→Lw→List Bt):Prop:=∀ (f g:Int) (s0:Lw) (t s:Rn),0≤f→f<s0.pts→0≤g→g<s0.pts→0≤s0.tmp→0≤s0.ext→s0.ext<s0.pts→outE C.es s0.ext=[]→(e=true→f=g)→Sim C t s→InB C (b f g s0)→(h f g s0).tmp≤C.T →
 Both C (r t) (C.fin f s) (fun _ _ s'=>C.fin f s=C.fin g s')
theorem loop_sim {C:Cx} {h:Rn→Res Bool} {b:Rn→Res Unit} {f y n:Int} (hm:∀ s,More s (h s)) (hb:∀ s,Up s (b s)) (h1:∀ t s,Sim C t s→Both C (h t) (C.fin f s) (fun v _ s'=>C.fin f s=C.fin (if v then y else n) s')) (h2:∀ t s,Sim C t s→Both C (b t) (C.fin y s) (fun _ _ s'=>C.fin y s=C.fin f s')) :
    ∀ (k:Nat) (t s:Rn),Sim C t s→C.most<k+t.steps→Both C (loopR h b k t) (C.fin f s) (fun _ _ s'=>C.fin f s=C.fin n s')
 | 0,t,s,hs,hk=>by have:=hs.le;omega
 | k+1,t,s,hs,hk=>by
   unfold loopR
   have hm0:=hm t
   have hh:=h1 t s hs
   cases hr:h t with
   | stop st wr t' =>
     rw [hr] at hh
     exact hh
   | go c t1 =>
     rw [hr] at hh hm0
     obtain ⟨s1,k1,p1⟩:=hh
     have hlt:=hm0 c t1 rfl
     show Both C (if c then (b t1).bind fun _ s=>loopR h b k s else .go () t1) _ _
     cases c with
     | false=>exact ⟨s1,k1,p1⟩
     | true =>
       simp only [if_true] at p1 ⊢
       have hb0:=hb t1
       have hh2:=h2 t1 s1 k1
       rw [p1]
       cases hr2:b t1 with
       | stop st wr t' =>
         rw [hr2] at hh2
         exact hh2
       | go u t2 =>
         rw [hr2] at hh2 hb0
         obtain ⟨s2,k2,p2⟩:=hh2
         unfold Up at hb0
         change t1.steps≤t2.steps at hb0
         rw [p2]
         exact loop_sim hm hb h1 h2 k t2 s2 k2 (by omega)
mutual
theorem cnd_gd {G:Gd}:∀ (x:Nd),x.ty=.C→gdN G x→cndN x
 | .mk ty k n nm xs cs ts es,hty,h=>by
   simp only [Nd.ty] at hty
   subst hty
   unfold gdN at h
   obtain ⟨⟨hk1,hk6,-,hl4,hl5⟩,-,hc,-⟩:=h
   unfold cndN partsR
   exact ⟨hk6,⟨hl4,hl5⟩,cndL_gd cs hc⟩
theorem cndL_gd {G:Gd}:∀ (l:List Nd),gdL G .C l→cndL l
 | [],_=>by unfold cndL;trivial
 | x :: r,h=>by
   unfold gdL at h
   unfold cndL
   exact ⟨cnd_gd x h.1 h.2.1,cndL_gd r h.2.2⟩
end
theorem asg_sim {C:Cx} (hC:C.ok) {nm:ByteArray} {x:Nd} (hx:gdN C.G x) (hty:x.ty=.E) (hv:C.E.pl nm<C.nv) {f g:Int} {s0:Lw} {t s:Rn} (f0:0≤f) (f1:f<s0.pts) (hz:0≤s0.tmp) (hs:Sim C t s) (hb:InB C (asgB C.E nm x f g s0)) (hT:(asgP C.E nm x f g s0).tmp≤C.T) :
    Both C ((valN C.rv x t).bind fun v t=>(if barN x then stepR C.rv t else .go () t).bind fun _ t=>.go () (putV C.rv nm v t)) (C.fin f s) (fun _ _ s'=>C.fin f s=C.fin g s'):=by
 unfold asgB at hb
 unfold asgP at hT
 cases hn:simN C.E x with
 | some o =>
   rw [hn] at hb hT
   have hbar:barN x=true:=by
    obtain ⟨ty,k,n,nm',xs,cs,ts,es⟩:=x
    simp only [simN,simK] at hn
    simp only [barN,conN,kindN]
    cases hc:conK k n xs with
    | some m=>rfl
    | none =>
      rw [hc] at hn
      simp only at hn
      split at hn
      · rename_i hk;simp [hk]
      · cases hn
   rw [hbar]
   simp only [if_true]
   have ho:=opN_sim hC x hx hty f 0 s0 t s f0 f1 (Int.le_refl 0) hz hs (by rw [opB_some hn];intro b h;cases h) (by rw [opN_some hn];exact hT)
   rw [opN_some hn] at ho
   refine ho.bind ?_
   rintro v t1 s1 k1 ⟨p1,p2,p3⟩
   refine Both.bind ((step_both k1 hb (fun h=>by cases h)).eq p3) ?_
   rintro _ t2 s2 k2 ⟨rfl,rfl,h⟩
   have hd:doE ⟨f,g,2,(C.E.pl nm:Int),-1,0,o.1,o.2,-1,0⟩ (tick s1)=(0,putS (tick s1) (C.E.pl nm:Int) v):=by
    unfold doE
    rw [if_pos rfl]
    show (0,putS (tick s1) (C.E.pl nm:Int) (valO s1 o.1 o.2))=_
    rw [p2]
   rw [hd] at h
   exact ⟨_,putV_sim k2 hv v,p3.trans h⟩
 | none =>
   rw [hn] at hb hT
   have hbar:barN x=false:=by
    obtain ⟨ty,k,n,nm',xs,cs,ts,es⟩:=x
    obtain ⟨a1,a2,a3⟩:=sim_none (show simK C.E k nm' (conK k n xs)=none from hn)
    simp only [barN,conN,kindN,a3]
    simp [a2]
   rw [hbar]
   simp only [Bool.false_eq_true,if_false]
   have hargs:∀ y ∈ argsN x,OpS C y:=by
    obtain ⟨ty,k,n,nm',xs,cs,ts,es⟩:=x
    unfold gdN at hx
    simp only [argsN]
    exact opL_sim hC xs hx.2.1
   refine (into_sim hC hx hty hn hargs ⟨f0,f1⟩ (Int.le_refl 0) hz hs hb hT).bind ?_
   rintro v t1 s1 k1 ⟨p1,p2⟩
   exact ⟨_,putV_sim k1 hv v,p2⟩
theorem sto_sim {C:Cx} (hC:C.ok) {nm:ByteArray} {xs:List Nd} (hxs:gdL C.G .E xs) (hl:xs.length=2) {f g:Int} {s0:Lw} {t s:Rn} (f0:0≤f) (f1:f<s0.pts) (hz:0≤s0.tmp) (hs:Sim C t s) (hb:InB C (stoB C.E nm xs f g s0)) (hT:(stoP C.E nm xs f g s0).tmp≤C.T) :
    Both C ((fnR (valL C.rv xs) 0 t).bind fun i t=>(fnR (valL C.rv xs) 1 t).bind fun v t=>(itemR C.rv nm i t).bind fun j t=>.go () (putA C.rv nm j v t)) (C.fin f s) (fun _ _ s'=>C.fin f s=C.fin g s'):=by
 obtain ⟨a,b,rfl⟩:=len2 hl
 have hg:=opL_sim hC [a,b] hxs
 unfold gdL at hxs
 obtain ⟨ta,ga,hxs⟩:=hxs
 unfold gdL at hxs
 obtain ⟨tb,gb,-⟩:=hxs
 have efa:fnR (valL C.rv [a,b]) 0=valN C.rv a:=by rw [valL,valL,valL];rfl
 have efb:fnR (valL C.rv [a,b]) 1=valN C.rv b:=by rw [valL,valL,valL];rfl
 rw [efa,efb]
 unfold stoB at hb
 refine two_both hC ga gb ta tb (hg a (by simp)) (hg b (by simp)) ⟨f0,f1⟩ (Int.le_refl 0) hz hs hb.left hT ?_
 intro v u t2 s2 k2 p1 p2 p3 p4
 have hb1:=hb.right
 obtain ⟨e,he⟩:∃ e,stoE C.E nm [a,b] f g s0=e:=⟨_,rfl⟩
 rw [he] at hb1
 have ek:e.kd=11:=by rw [← he];rfl
 have ef:e.fr=(opsL C.E [a,b] f 0 s0).2.1:=by rw [← he];rfl
 have et:e.dt=g:=by rw [← he];rfl
 have ea:edVa e s2=v:=by rw [← he];exact p2
 have eb:edVb e s2=u:=by rw [← he];exact p3
 have er:e.arr=(C.E.pl nm:Int):=by rw [← he];rfl
 unfold itemR
 rw [← ef] at p4
 refine Both.eq ?_ p4
 rw [p4]
 refine Both.bind (Q:=fun j t3 s3=>s3=tick s2∧∃ s4,Sim C (putA C.rv nm j u t3) s4∧C.fin e.fr s2=C.fin g s4) ?_ ?_
 · refine (step_both k2 hb1 (fun h=>by omega)).bind ?_
   rintro _ t1 s1 h1 ⟨rfl,rfl,h2⟩
   have har:arrO (tick s2) e.arr=(tick t2).arrs.getD (C.rv.pl nm) []:=by unfold arrO;rw [er,Int.toNat_natCast,h1.arrs];rfl
   have hdo:doE e (tick s2)=if v<0∨(((tick t2).arrs.getD (C.rv.pl nm) []).length:Int)≤v then (3,tick s2) else (0,{ tick s2 with arrs:=(tick s2).arrs.set (C.E.pl nm) (((tick t2).arrs.getD (C.rv.pl nm) []).set v.toNat u) }):=by
    unfold doE
    rw [if_neg (by omega),if_neg (by omega),if_neg (by omega),if_neg (by omega),if_pos ek,har,show edVa e (tick s2)=v from ea,show edVb e (tick s2)=u from eb,er,Int.toNat_natCast]
   rw [hdo,et] at h2
   by_cases hz:v<0∨(((tick t2).arrs.getD (C.rv.pl nm) []).length:Int)≤v
   · rw [if_pos hz] at h2 ⊢
     exact ⟨_,_,h2,h1⟩
   · rw [if_neg hz] at h2 ⊢
     refine ⟨tick s2,h1,rfl,_,?_,h2⟩
     refine ⟨?_,h1.evs,h1.steps,h1.left,h1.le,h1.len,h1.T0,h1.tlen,h1.v⟩
     show (tick s2).arrs.set (C.E.pl nm) _=(tick t2).arrs.set (C.rv.pl nm) _
     rw [h1.arrs]
     rfl
 · rintro j t3 s3 k3 ⟨q1,s4,q2,q3⟩
   exact ⟨s4,q2,q3⟩
end Go.Proofs.YtmohmggnjldddaaGreatDoor
