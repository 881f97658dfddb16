/-
  Plain: what each part of the lowering brings: proved is that its edges are right, and that each point has one batch at most.
-/
import Derived.Test.YtmohmggnjldddaaGreatDoorQCfgF
import Derived.Test.YtmohmggnjldddaaGreatDoorQLwG
import Derived.Test.YtmohmggnjldddaaGreatDoorQAbb
namespace Go.Proofs.YtmohmggnjldddaaGreatDoor
open Go Go.RowKit
inductive Bt where
 | one (e:Ed)
 | two (e f:Ed)
def Bt.pt:Bt→Int | .one e=>e.fr | .two e _=>e.fr
def Bt.eds:Bt→List Ed | .one e=>[e] | .two e f=>[e,f]
def Bt.ok:Bt→Prop | .one e=>e.kd≠12 | .two e f=>e.fr=f.fr∧e.kd=12∧f.kd=12∧f.av=e.av∧f.an=e.an∧f.bv=e.bv∧f.bn=e.bn∧f.op=notI e.op
def flat (l:List Bt):List Ed:=l.flatMap Bt.eds
theorem flat_app (l m:List Bt):flat (l++m)=flat l++flat m:=by simp [flat]
def cmp1 (E:Lv) (op:Int) (xs:List Nd) (f y:Int) (s:Lw):Ed:=⟨(opsL E xs f 0 s).2.1,y,12,-1,-1,op,(op0 (opsL E xs f 0 s).1).1,(op0 (opsL E xs f 0 s).1).2,(op1 (opsL E xs f 0 s).1).1,(op1 (opsL E xs f 0 s).1).2⟩
mutual
def opB (E:Lv):Nd→Int→Int→Lw→List Bt
 | .mk _ k n nm xs _ _ _,q,d,s=>match simK E k nm (conK k n xs) with
   | some _=>[]
   | none=>opsB E xs q d (s.temp d).fresh++[.one (lastE E k nm ((E.nv:Int)+d) (opsL E xs q d (s.temp d).fresh).2.1 s.pts (opsL E xs q d (s.temp d).fresh).1)]
def opsB (E:Lv):List Nd→Int→Int→Lw→List Bt
 | [],_,_,_=>[]
 | x :: r,q,d,s=>opB E x q d s++opsB E r (opN E x q d s).2.1 (nextD E (opN E x q d s).1 d) (opN E x q d s).2.2
end
def intoB (E:Lv) (x:Nd) (dst f t d:Int) (s:Lw):List Bt:=opsB E (argsN x) f d s++[.one (lastE E (kindN x) (nameN x) dst (opsL E (argsN x) f d s).2.1 t (opsL E (argsN x) f d s).1)]
theorem opB_some {E:Lv} {x:Nd} {o:Int × Int} (h:simN E x=some o) (q d:Int) (s:Lw):opB E x q d s=[]:=by
 cases x
 simp only [simN] at h
 rw [opB,h]
theorem opB_none {E:Lv} {x:Nd} (h:simN E x=none) (q d:Int) (s:Lw):opB E x q d s=intoB E x ((E.nv:Int)+d) q s.pts d (s.temp d).fresh:=by
 cases x
 simp only [simN] at h
 rw [opB,h]
 rfl
def cnB (hs:List (Int→Int→Int→Lw→List Bt)) (i:Nat):Int→Int→Int→Lw→List Bt:=hs.getD i (fun _ _ _ _=>[])
def cdKB (E:Lv) (k op:Int) (xs:List Nd) (hs:List (Int→Int→Int→Lw→Lw)) (bs:List (Int→Int→Int→Lw→List Bt)) (f y n:Int) (s:Lw):List Bt :=
 if k=1 then [.one (edgeE f y 1)] else if k=2 then [.one (edgeE f n 1)] else if k=3 then opsB E xs f 0 s++[.two (cmp1 E op xs f y s) (cmp1 E (notI op) xs f n s)]
 else if k=4 then cnB bs 0 f n y s
 else if k=5 then cnB bs 0 f s.pts n s.fresh++cnB bs 1 s.pts y n (cnR hs 0 f s.pts n s.fresh)
 else cnB bs 0 f y s.pts s.fresh++cnB bs 1 s.pts y n (cnR hs 0 f y s.pts s.fresh)
mutual
def cdB (E:Lv):Nd→Int→Int→Int→Lw→List Bt
 | .mk _ k n _ xs cs _ _=>cdKB E k n xs (cdL E cs) (cdBL E cs)
def cdBL (E:Lv):List Nd→List (Int→Int→Int→Lw→List Bt)
 | []=>[]
 | x :: r=>cdB E x :: cdBL E r
end
def asgB (E:Lv) (nm:ByteArray) (x:Nd) (f t:Int) (s:Lw):List Bt:=match simN E x with
 | some o=>[.one ⟨f,t,2,(E.pl nm:Int),-1,0,o.1,o.2,-1,0⟩]
 | none=>intoB E x (E.pl nm:Int) f t 0 s
def stoE (E:Lv) (nm:ByteArray) (xs:List Nd) (f t:Int) (s:Lw):Ed:=⟨(opsL E xs f 0 s).2.1,t,11,-1,(E.pl nm:Int),0,(op0 (opsL E xs f 0 s).1).1,(op0 (opsL E xs f 0 s).1).2,(op1 (opsL E xs f 0 s).1).1,(op1 (opsL E xs f 0 s).1).2⟩
def stoB (E:Lv) (nm:ByteArray) (xs:List Nd) (f t:Int) (s:Lw):List Bt:=opsB E xs f 0 s++[.one (stoE E nm xs f t s)]
def lwKB (E:Lv) (k:Int) (nm:ByteArray) (xs:List Nd) (hs:List (Int→Int→Int→Lw→Lw)) (bs:List (Int→Int→Int→Lw→List Bt)) (te ee:Bool) (tb:Int→Int→Lw→Lw) (tB eB:Int→Int→Lw→List Bt) (f t:Int) (s:Lw):List Bt :=
 if k=1 then asgB E nm (xs.getD 0 noNd) f t s
 else if k=2 then stoB E nm xs f t s
 else if k=3 then cnB bs 0 f (begP te t s) (begP ee t (begS te s)) (begS ee (begS te s))++(tB (begP te t s) t (cnR hs 0 f (begP te t s) (begP ee t (begS te s)) (begS ee (begS te s))) ++
  eB (begP ee t (begS te s)) t (tb (begP te t s) t (cnR hs 0 f (begP te t s) (begP ee t (begS te s)) (begS ee (begS te s)))))
 else if k=4 then cnB bs 0 f (begP te f s) t (begS te s)++tB (begP te f s) f (cnR hs 0 f (begP te f s) t (begS te s))
 else if k=5 then cnB bs 0 f s.pts (s.pts+1) s.fresh.fresh++([.one (edgeE s.pts t 13)]++[.one (edgeE (s.pts+1) t 14)])
 else if k=6 then cnB bs 0 f t s.ext s
 else [.one (edgeE f t 1)]
def blkB (n:Nat) (b:Int→Int→Int→Lw→List Bt) (f t:Int) (s:Lw):List Bt:=b f s.pts t (s.more (n - 1))
mutual
def lwB' (E:Lv):Nd→Int→Int→Lw→List Bt
 | .mk _ k _ nm xs cs ts es=>lwKB E k nm xs (cdL E cs) (cdBL E cs) ts.isEmpty es.isEmpty (blkF ts.length (lwL E ts)) (blkB ts.length (lwBL E ts)) (blkB es.length (lwBL E es))
def lwBL (E:Lv):List Nd→Int→Int→Int→Lw→List Bt
 | [],_,_,_,_=>[]
 | x :: r,f,p,t,s=>lwB' E x f (if r.isEmpty then t else p) s++lwBL E r (if r.isEmpty then t else p) (p+1) t (lwN E x f (if r.isEmpty then t else p) s)
end
def lowB (E:Lv) (ss:List Nd):List Bt:=blkB ss.length (lwBL E ss) 0 (begP ss.isEmpty 0 ⟨1,0,0,[]⟩) { begS ss.isEmpty ⟨1,0,0,[]⟩ with ext:=begP ss.isEmpty 0 ⟨1,0,0,[]⟩ }
def Opd (v m n:Int):Prop:=v = -1∨(0≤v∧v<n∧m=0)
structure EdP (nv na pts:Int) (e:Ed):Prop where
 kd:1≤e.kd∧e.kd≤14
 fr:0≤e.fr∧e.fr<pts
 dt:0≤e.dt∧e.dt<pts
 dst:((2≤e.kd∧e.kd≤10)∧0≤e.dst∧e.dst<nv)∨(¬ (2≤e.kd∧e.kd≤10)∧e.dst = -1)
 arr:((e.kd=10∨e.kd=11)∧0≤e.arr∧e.arr<na)∨(¬ (e.kd=10∨e.kd=11)∧e.arr = -1)
 op:(e.kd=12∧1≤e.op∧e.op≤6)∨(e.kd≠12∧e.op=0)
 a:(((2≤e.kd∧e.kd≤8)∨(10≤e.kd∧e.kd≤12))∧Opd e.av e.an nv)∨(¬ ((2≤e.kd∧e.kd≤8)∨(10≤e.kd∧e.kd≤12))∧e.av = -1∧e.an=0)
 b:(((4≤e.kd∧e.kd≤8)∨e.kd=11∨e.kd=12)∧Opd e.bv e.bn nv)∨(¬ ((4≤e.kd∧e.kd≤8)∨e.kd=11∨e.kd=12)∧e.bv = -1∧e.bn=0)
theorem Opd.mono {v m n n':Int} (h:Opd v m n) (hn:n≤n'):Opd v m n':=by unfold Opd at *;omega
theorem EdP.mono {nv na pts nv' pts':Int} {e:Ed} (h:EdP nv na pts e) (hn:nv≤nv') (hp:pts≤pts'):EdP nv' na pts' e:=by
 obtain ⟨h1,h2,h3,h4,h5,h6,h7,h8⟩:=h
 unfold Opd at h7 h8
 refine ⟨h1,by omega,by omega,by omega,h5,h6,?_,?_⟩<;>(unfold Opd;omega)
theorem opd_of {has:Bool} {v m n:Int} {p:Prop} [Decidable p] (hp:has=decide p) (h:(p∧Opd v m n)∨(¬ p∧v = -1∧m=0)):opd has v m n=true:=by
 subst hp
 unfold opd amg
 rcases h with ⟨h1,h2⟩ | ⟨h1,rfl,rfl⟩
 · simp only [h1,decide_true,if_true]
   rcases h2 with rfl | ⟨h2,h3,rfl⟩
   · simp
   · simp [h2,h3]
 · simp [h1]
theorem edR_of {nv na pts ext:Int} {e:Ed} (h:EdP nv na pts e) (hx:e.fr≠ext):edR nv na pts ext e=true:=by
 obtain ⟨h1,h2,h3,h4,h5,h6,h7,h8⟩:=h
 have a1:kdR e.kd=true:=by simp [kdR,h1]
 have a2:endR pts ext e=true:=by simp [endR,amg,h2,h3,hx]
 have a3:plc (kDst e.kd) e.dst nv=true:=by
  unfold plc kDst amg
  rcases h4 with ⟨q,q1,q2⟩ | ⟨q,q1⟩
  · simp only [q,and_self,decide_true,if_true,q1,q2,Bool.and_self]
  · simp only [q,decide_false,Bool.false_eq_true,if_false,q1,beq_self_eq_true]
 have a4:plc (kArr e.kd) e.arr na=true:=by
  unfold plc kArr amg
  rcases h5 with ⟨q,q1,q2⟩ | ⟨q,q1⟩
  · simp only [q,decide_true,if_true,q1,q2,Bool.and_self]
  · simp only [q,decide_false,Bool.false_eq_true,if_false,q1,beq_self_eq_true]
 have a5:cmps (kOp e.kd) e.op=true:=by
  unfold cmps kOp
  rcases h6 with ⟨q,q1,q2⟩ | ⟨q,q1⟩
  · simp only [q,decide_true,if_true,q1,q2,Bool.and_self]
  · simp only [q,decide_false,Bool.false_eq_true,if_false,q1,beq_self_eq_true]
 have a6:opd (kA e.kd) e.av e.an nv=true:=opd_of rfl h7
 have a7:opd (kB e.kd) e.bv e.bn nv=true:=opd_of rfl h8
 unfold edR namR
 rw [a1,a2,a3,a4,a5,a6,a7]
 rfl
def ptsB (l:List Bt):List Int:=l.map Bt.pt
theorem ptsB_app (l m:List Bt):ptsB (l++m)=ptsB l++ptsB m:=by simp [ptsB]
structure Lo (nv na:Nat) (I:Int→Prop) (s s':Lw) (bs:List Bt):Prop where
 eds:s'.eds=s.eds++flat bs
 nd:(ptsB bs).Nodup
 rg:∀ p ∈ ptsB bs,I p∨(s.pts≤p∧p<s'.pts)
 pts:s.pts≤s'.pts
 tmp:s.tmp≤s'.tmp
 ext:s'.ext=s.ext
 ok:∀ b ∈ bs,b.ok
 ed:∀ b ∈ bs,∀ e ∈ b.eds,EdP (nv+s'.tmp) na s'.pts e
theorem Lo.nil {nv na:Nat} {I:Int→Prop} {s s':Lw} (h1:s'.eds=s.eds) (h2:s.pts≤s'.pts) (h3:s.tmp≤s'.tmp) (h4:s'.ext=s.ext):Lo nv na I s s' [] :=
 ⟨by simp [h1,flat],List.nodup_nil,fun p h=>(by cases h),h2,h3,h4,fun b h=>(by cases h),fun b h=>(by cases h)⟩
theorem Lo.one {nv na:Nat} {s:Lw} {e:Ed} (hk:e.kd≠12) (h:EdP (nv+s.tmp) na s.pts e):Lo nv na (fun p=>p=e.fr) s (s.add e) [.one e] :=
 ⟨rfl,by simp [ptsB],fun p hp=>.inl (by simpa [ptsB,Bt.pt] using hp),Int.le_refl _,Int.le_refl _,rfl,fun b hb=>by obtain rfl:=List.mem_singleton.1 hb;exact hk,fun b hb x hx=>by obtain rfl:=List.mem_singleton.1 hb;obtain rfl:=List.mem_singleton.1 hx;exact h⟩
theorem Lo.two {nv na:Nat} {s:Lw} {e f:Ed} (hk:(Bt.two e f).ok) (h:EdP (nv+s.tmp) na s.pts e) (h':EdP (nv+s.tmp) na s.pts f):Lo nv na (fun p=>p=e.fr) s ((s.add e).add f) [.two e f] :=
 ⟨by simp [Lw.add,flat,Bt.eds],by simp [ptsB],fun p hp=>.inl (by simpa [ptsB,Bt.pt] using hp),Int.le_refl _,Int.le_refl _,rfl,fun b hb=>by obtain rfl:=List.mem_singleton.1 hb;exact hk,fun b hb x hx=>by
  obtain rfl:=List.mem_singleton.1 hb
  have hx:x ∈ [e,f]:=hx
  simp only [List.mem_cons,List.not_mem_nil,or_false] at hx
  rcases hx with rfl | rfl
  · exact h
  · exact h'⟩
theorem Lo.app {nv na:Nat} {I I1 I2:Int→Prop} {s s1 s2:Lw} {b1 b2:List Bt} (h1:Lo nv na I1 s s1 b1) (h2:Lo nv na I2 s1 s2 b2) (hd:∀ p ∈ ptsB b1,¬ I2 p) (hi:∀ p,I1 p→p<s1.pts) (h3:∀ p,I1 p→I p) (h4:∀ p,I2 p→I p∨(s.pts≤p∧p<s1.pts)):Lo nv na I s s2 (b1++b2) where
 eds:=by rw [h2.eds,h1.eds,flat_app,List.append_assoc]
 nd:=by
  rw [ptsB_app,List.nodup_append]
  refine ⟨h1.nd,h2.nd,fun a ha b hb hab=>?_⟩
  subst hab
  rcases h2.rg a hb with h | h
  · exact hd a ha h
  · rcases h1.rg a ha with g | g
    · have:=hi a g;omega
    · omega
 rg:=fun p hp=>by
  rw [ptsB_app,List.mem_append] at hp
  have e1:=h1.pts
  have e2:=h2.pts
  rcases hp with hp | hp
  · exact (h1.rg p hp).imp (h3 p) (fun h=>by omega)
  · rcases h2.rg p hp with h | h
    · exact (h4 p h).imp id (fun h=>by omega)
    · exact .inr (by omega)
 pts:=Int.le_trans h1.pts h2.pts
 tmp:=Int.le_trans h1.tmp h2.tmp
 ext:=h2.ext.trans h1.ext
 ok:=fun b hb=>(List.mem_append.1 hb).elim (h1.ok b) (h2.ok b)
 ed:=fun b hb e he=>(List.mem_append.1 hb).elim (fun hb=>(h1.ed b hb e he).mono (by have:=h2.tmp;omega) h2.pts) (fun hb=>h2.ed b hb e he)
theorem Lo.mono {nv na:Nat} {I J:Int→Prop} {s s':Lw} {bs:List Bt} (h:Lo nv na I s s' bs) (hi:∀ p,I p→J p):Lo nv na J s s' bs:=⟨h.eds,h.nd,fun p hp=>(h.rg p hp).imp (hi p) id,h.pts,h.tmp,h.ext,h.ok,h.ed⟩
theorem Lo.from {nv na:Nat} {I:Int→Prop} {s s1 s2:Lw} {bs:List Bt} (h:Lo nv na I s1 s2 bs) (h1:s1.eds=s.eds) (h2:s.pts≤s1.pts) (h3:s.tmp≤s1.tmp) (h4:s1.ext=s.ext):Lo nv na I s s2 bs :=
 ⟨by rw [h.eds,h1],h.nd,fun p hp=>(h.rg p hp).imp id (fun h=>by omega),by have:=h.pts;omega,by have:=h.tmp;omega,h.ext.trans h4,h.ok,h.ed⟩
theorem Bt.fr_all {b:Bt} (h:b.ok):∀ e ∈ b.eds,e.fr=b.pt:=by
 intro e he
 cases b with
 | one x=>obtain rfl:=List.mem_singleton.1 he;rfl
 | two x y =>
   have he:e ∈ [x,y]:=he
   simp only [List.mem_cons,List.not_mem_nil,or_false] at he
   rcases he with rfl | rfl
   · rfl
   · exact h.1.symm
structure Nmd (G:Gd) (E:Lv):Prop where
 pl:G.pl=E.pl
 nv:G.nv=E.nv
structure OpLo (E:Lv) (na:Nat) (q d:Int) (s s':Lw) (x:Int) (u:Int × Int) (bs:List Bt):Prop where
 lo:Lo E.nv na (fun p=>p=q) s s' bs
 x0:0≤x
 x1:x<s'.pts
 xq:x=q∨s.pts≤x
 xn:∀ p ∈ ptsB bs,p≠x
 o:Opd u.1 u.2 (E.nv+s'.tmp)
 od:u.1<E.nv+nextD E u d
structure OpsLo (E:Lv) (na:Nat) (q:Int) (s s':Lw) (x:Int) (os:List (Int × Int)) (bs:List Bt):Prop where
 lo:Lo E.nv na (fun p=>p=q) s s' bs
 x0:0≤x
 x1:x<s'.pts
 xq:x=q∨s.pts≤x
 xn:∀ p ∈ ptsB bs,p≠x
 o:∀ o ∈ os,Opd o.1 o.2 (E.nv+s'.tmp)
theorem next_le (E:Lv) (o:Int × Int) (d:Int):d≤nextD E o d:=by unfold nextD;split<;>omega
theorem opsLen (E:Lv):∀ (l:List Nd) (q d:Int) (s:Lw),(opsL E l q d s).1.length=l.length
 | [],q,d,s=>by rw [opsL];rfl
 | x :: r,q,d,s=>by rw [opsL,List.length_cons,List.length_cons,opsLen E r]
theorem sim_opd {E:Lv} {k:Int} {nm:ByteArray} {c:Option Int} {o:Int × Int} (h:simK E k nm c=some o) (hv:k=2→E.pl nm<E.nv) {T:Int} (hT:0≤T):Opd o.1 o.2 (E.nv+T)∧o.1<E.nv:=by
 unfold simK at h
 split at h
 · cases h
   exact ⟨.inl rfl,by simp;omega⟩
 · split at h
   · rename_i hk
     cases h
     have:=hv hk
     exact ⟨.inr ⟨by simp,by simp;omega,rfl⟩,by simp;omega⟩
   · cases h
theorem sim_none {E:Lv} {k n:Int} {nm:ByteArray} {xs:List Nd} (h:simK E k nm (conK k n xs)=none):k≠1∧k≠2∧conK k n xs=none:=by
 unfold simK at h
 split at h
 · cases h
 · rename_i hc
   split at h
   · cases h
   · rename_i hk
     refine ⟨fun e=>?_,hk,hc⟩
     subst e
     cases xs<;>simp [conK] at hc
theorem last_ok {E:Lv} {na:Nat} {k:Int} {nm:ByteArray} {dst e t:Int} {os:List (Int × Int)} {T P:Int} (hk:3≤k∧k≤10) (h3:k=3→os.length=0) (h1:k=4∨k=5→os.length=1) (h2:6≤k→os.length=2) (ha:k=4→E.pl nm<na) (ho:∀ o ∈ os,Opd o.1 o.2 T) (hd:0≤dst∧dst<T) (he:0≤e∧e<P) (ht:0≤t∧t<P) :
    EdP T na P (lastE E k nm dst e t os)∧(lastE E k nm dst e t os).kd≠12:=by
 have hc:k=3∨k=4∨k=5∨6≤k:=by omega
 rcases hc with rfl | rfl | rfl | h6
 · obtain rfl:os=[]:=List.eq_nil_of_length_eq_zero (h3 rfl)
   refine ⟨⟨?_,he,ht,?_,?_,?_,?_,?_⟩,?_⟩<;>simp [lastE,kindK,op0,op1,hd]
 · obtain ⟨o,rfl⟩:=List.length_eq_one_iff.1 (h1 (.inl rfl))
   have g:=ho o (List.mem_singleton.2 rfl)
   have:=ha rfl
   refine ⟨⟨?_,he,ht,?_,?_,?_,?_,?_⟩,?_⟩<;>simp [lastE,kindK,op0,op1,hd,g,this]
 · obtain ⟨o,rfl⟩:=List.length_eq_one_iff.1 (h1 (.inr rfl))
   have g:=ho o (List.mem_singleton.2 rfl)
   refine ⟨⟨?_,he,ht,?_,?_,?_,?_,?_⟩,?_⟩<;>simp [lastE,kindK,op0,op1,hd,g]
 · obtain ⟨a,b,rfl⟩:=len2 (h2 h6)
   have ga:=ho a (by simp)
   have gb:=ho b (by simp)
   have e1:kindK k=k - 2:=by unfold kindK;rw [if_neg (by omega),if_neg (by omega)]
   have e2:(if k=4 then ((E.pl nm:Nat):Int) else -1) = -1:=if_neg (by omega)
   unfold lastE
   rw [e1,e2]
   refine ⟨⟨by simp only;omega,he,ht,.inl ⟨by simp only;omega,hd⟩,.inr ⟨by simp only;omega,rfl⟩,.inr ⟨by simp only;omega,rfl⟩,.inl ⟨by simp only;omega,ga⟩,.inl ⟨by simp only;omega,gb⟩⟩,by simp only;omega⟩
theorem into_lo {G:Gd} {E:Lv} (hn:Nmd G E) {x:Nd} {dst f t d:Int} {s:Lw} (hg:gdN G x) (hty:x.ty=.E) (hs:simN E x=none) (hd:0≤dst∧dst<E.nv+s.tmp) (hf:0≤f∧f<s.pts) (ht:0≤t∧t<s.pts)
    (ho:OpsLo E G.na f s (opsL E (argsN x) f d s).2.2 (opsL E (argsN x) f d s).2.1 (opsL E (argsN x) f d s).1 (opsB E (argsN x) f d s)) :
    Lo E.nv G.na (fun p=>p=f) s (intoN E x dst f t d s) (intoB E x dst f t d s):=by
 obtain ⟨ty,k,n,nm,xs,cs,ts,es⟩:=x
 simp only [Nd.ty] at hty
 subst hty
 unfold gdN at hg
 obtain ⟨⟨k1,k10,-,kl3,kl5,kl6,-,ka⟩,-⟩:=hg
 obtain ⟨n1,n2,-⟩:=sim_none (show simK E k nm (conK k n xs)=none from hs)
 have hl:=opsLen E xs f d s
 simp only [argsN] at ho
 have hT:=ho.lo.tmp
 have hP:=ho.lo.pts
 obtain ⟨h1,h2⟩:=last_ok (E:=E) (na:=G.na) (k:=k) (nm:=nm) (dst:=dst) (e:=(opsL E xs f d s).2.1) (t:=t) (os:=(opsL E xs f d s).1) (T:=E.nv+(opsL E xs f d s).2.2.tmp) (P:=(opsL E xs f d s).2.2.pts) ⟨by omega,k10⟩ (fun h=>by rw [hl];exact kl3 (by omega)) (fun h=>by rw [hl];exact kl5 h) (fun h=>by rw [hl];exact kl6 h) (fun h=>by rw [← hn.pl];exact ka h) ho.o ⟨hd.1,by omega⟩ ⟨ho.x0,ho.x1⟩ ⟨ht.1,by omega⟩
 have hone:=Lo.one (nv:=E.nv) (na:=G.na) (s:=(opsL E xs f d s).2.2) h2 h1
 exact ho.lo.app hone (fun p hp e=>ho.xn p hp e) (fun p hp=>by omega) (fun p hp=>hp) (fun p hp=>by
  have e:p=(opsL E xs f d s).2.1:=hp
  have:=ho.xq
  have:=ho.x1
  omega)
mutual
theorem opN_lo {G:Gd} {E:Lv} (hn:Nmd G E):∀ (x:Nd) (q d:Int) (s:Lw),gdN G x→x.ty=.E→0≤q→q<s.pts→0≤d→0≤s.tmp→OpLo E G.na q d s (opN E x q d s).2.2 (opN E x q d s).2.1 (opN E x q d s).1 (opB E x q d s)
 | .mk ty k n nm xs cs ts es,q,d,s,hg,hty,hq,hqs,hd,ht=>by
   simp only [Nd.ty] at hty
   subst hty
   have hgx:=hg
   unfold gdN at hgx
   obtain ⟨⟨k1,k10,-,kl3,kl5,kl6,kv,ka⟩,hxs,-⟩:=hgx
   cases hs:simK E k nm (conK k n xs) with
   | some o =>
     have hs':simN E (.mk .E k n nm xs cs ts es)=some o:=hs
     rw [opN_some hs',opB_some hs']
     obtain ⟨g1,g2⟩:=sim_opd hs (fun h=>by rw [← hn.pl,← hn.nv];exact kv h) ht
     have:=next_le E o d
     exact ⟨Lo.nil rfl (Int.le_refl _) (Int.le_refl _) rfl,hq,hqs,.inl rfl,fun p hp=>(by cases hp),g1,by simp only;omega⟩
   | none =>
     have hs':simN E (.mk .E k n nm xs cs ts es)=none:=hs
     rw [opN_none hs',opB_none hs']
     have p1:(s.temp d).fresh.pts=s.pts+1:=rfl
     have t1:(s.temp d).fresh.tmp=max s.tmp (d+1):=rfl
     have hops:=opsL_lo hn xs q d (s.temp d).fresh hxs hq (by omega) hd (by omega)
     have hin:=into_lo hn (x:=.mk .E k n nm xs cs ts es) (dst:=E.nv+d) (f:=q) (t:=s.pts) (d:=d) (s:=(s.temp d).fresh) hg rfl hs' ⟨by omega,by omega⟩ ⟨hq,by omega⟩ ⟨by omega,by omega⟩ hops
     have hP:=hin.pts
     have hT:=hin.tmp
     refine ⟨hin.from rfl (by omega) (by omega) rfl,by simp only;omega,by simp only;omega,.inr (Int.le_refl _),fun p hp=>?_,.inr ⟨by simp only;omega,by simp only;omega,rfl⟩,?_⟩
     · have:=hin.rg p hp
       simp only
       omega
     · unfold nextD
       rw [if_pos (by simp only;omega)]
       simp only
       omega
theorem opsL_lo {G:Gd} {E:Lv} (hn:Nmd G E):∀ (l:List Nd) (q d:Int) (s:Lw),gdL G .E l→0≤q→q<s.pts→0≤d→0≤s.tmp→OpsLo E G.na q s (opsL E l q d s).2.2 (opsL E l q d s).2.1 (opsL E l q d s).1 (opsB E l q d s)
 | [],q,d,s,_,hq,hqs,_,_=>by
   rw [opsL,opsB]
   exact ⟨Lo.nil rfl (Int.le_refl _) (Int.le_refl _) rfl,hq,hqs,.inl rfl,fun p hp=>(by cases hp),fun o ho=>by cases ho⟩
 | x :: r,q,d,s,hg,hq,hqs,hd,ht=>by
   unfold gdL at hg
   obtain ⟨hty,hx,hr⟩:=hg
   have h1:=opN_lo hn x q d s hx hty hq hqs hd ht
   have hP1:=h1.lo.pts
   have hT1:=h1.lo.tmp
   have hd1:=next_le E (opN E x q d s).1 d
   have h2:=opsL_lo hn r (opN E x q d s).2.1 (nextD E (opN E x q d s).1 d) (opN E x q d s).2.2 hr h1.x0 h1.x1 (by omega) (by omega)
   have hP2:=h2.lo.pts
   have hT2:=h2.lo.tmp
   have hx1:=h1.x1
   have hxq1:=h1.xq
   have hxq2:=h2.xq
   rw [opsL,opsB]
   refine ⟨h1.lo.app h2.lo (fun p hp e=>h1.xn p hp e) (fun p hp=>by omega) (fun p hp=>hp) (fun p hp=>by omega),h2.x0,h2.x1,by simp only;omega,fun p hp=>?_,fun o ho=>?_⟩
   · rw [ptsB_app,List.mem_append] at hp
     rcases hp with hp | hp
     · have g1:=h1.xn p hp
       have g2:=h1.lo.rg p hp
       simp only
       omega
     · exact h2.xn p hp
   · simp only [List.mem_cons] at ho
     rcases ho with rfl | ho
     · exact h1.o.mono (by simp only;omega)
     · exact h2.o o ho
end
theorem edgeE_ok {na:Nat} {f t k:Int} {T P:Int} (hk:k=1∨k=13∨k=14) (hf:0≤f∧f<P) (ht:0≤t∧t<P):EdP T na P (edgeE f t k)∧(edgeE f t k).kd≠12:=by
 rcases hk with rfl | rfl | rfl<;>(refine ⟨⟨?_,hf,ht,?_,?_,?_,?_,?_⟩,?_⟩<;>simp [edgeE])
theorem one_lo {nv na:Nat} {f t k:Int} {s:Lw} (hk:k=1∨k=13∨k=14) (hf:0≤f∧f<s.pts) (ht:0≤t∧t<s.pts):Lo nv na (fun p=>p=f) s (s.add (edgeE f t k)) [.one (edgeE f t k)]:=by
 obtain ⟨h1,h2⟩:=edgeE_ok (na:=na) (T:=nv+s.tmp) hk hf ht
 exact Lo.one h2 h1
theorem cmp1_ok {G:Gd} {E:Lv} {xs:List Nd} {f:Int} {s:Lw} (hl:xs.length=2) (ho:OpsLo E G.na f s (opsL E xs f 0 s).2.2 (opsL E xs f 0 s).2.1 (opsL E xs f 0 s).1 (opsB E xs f 0 s)) {op y:Int} (hop:1≤op∧op≤6) (hy:0≤y∧y<s.pts):EdP (E.nv+(opsL E xs f 0 s).2.2.tmp) G.na (opsL E xs f 0 s).2.2.pts (cmp1 E op xs f y s):=by
 obtain ⟨a,b,hab⟩:=len2 ((opsLen E xs f 0 s).trans hl)
 have ha:=ho.o a (by rw [hab];simp)
 have hb:=ho.o b (by rw [hab];simp)
 have hP:=ho.lo.pts
 refine ⟨by simp [cmp1],⟨ho.x0,ho.x1⟩,⟨hy.1,by simp only [cmp1];omega⟩,by simp [cmp1],by simp [cmp1],.inl ⟨rfl,hop⟩,.inl ⟨by simp [cmp1],?_⟩,.inl ⟨by simp [cmp1],?_⟩⟩
 · simp only [cmp1,hab,op0,List.getD_cons_zero]
   exact ha
 · simp only [cmp1,hab,op1,List.getD_cons_succ,List.getD_cons_zero]
   exact hb
theorem not_in {op:Int} (h:1≤op∧op≤6):1≤notI op∧notI op≤6:=by unfold notI;rw [if_pos h];omega
theorem cmp_lo {G:Gd} {E:Lv} (hn:Nmd G E) {xs:List Nd} {op f y n:Int} {s:Lw} (hg:gdL G .E xs) (hl:xs.length=2) (hop:1≤op∧op≤6) (hf:0≤f∧f<s.pts) (hy:0≤y∧y<s.pts) (hn':0≤n∧n<s.pts) (ht:0≤s.tmp) :
    Lo E.nv G.na (fun p=>p=f) s (cmpE E op xs f y n s) (opsB E xs f 0 s++[.two (cmp1 E op xs f y s) (cmp1 E (notI op) xs f n s)]):=by
 have ho:=opsL_lo hn xs f 0 s hg hf.1 hf.2 (by omega) ht
 have h2:=Lo.two (nv:=E.nv) (na:=G.na) (s:=(opsL E xs f 0 s).2.2) (e:=cmp1 E op xs f y s) (f:=cmp1 E (notI op) xs f n s) ⟨rfl,rfl,rfl,rfl,rfl,rfl,rfl,rfl⟩ (cmp1_ok hl ho hop hy) (cmp1_ok hl ho (not_in hop) hn')
 have hP:=ho.lo.pts
 exact ho.lo.app h2 (fun p hp e=>ho.xn p hp e) (fun p hp=>by omega) (fun p hp=>hp) (fun p hp=>by
  have e:p=(opsL E xs f 0 s).2.1:=hp
  have:=ho.xq
  have:=ho.x1
  omega)
def CdLo (E:Lv) (na:Nat) (h:Int→Int→Int→Lw→Lw) (b:Int→Int→Int→Lw→List Bt):Prop:=∀ (f y n:Int) (s:Lw),0≤f→f<s.pts→0≤y→y<s.pts→0≤n→n<s.pts→0≤s.tmp→Lo E.nv na (fun p=>p=f) s (h f y n s) (b f y n s)
theorem and_lo {E:Lv} {na:Nat} {h0 h1:Int→Int→Int→Lw→Lw} {b0 b1:Int→Int→Int→Lw→List Bt} (g0:CdLo E na h0 b0) (g1:CdLo E na h1 b1) {f y n y0 n0:Int} {s:Lw} (hf:0≤f∧f<s.pts) (hy:0≤y∧y<s.pts) (hn:0≤n∧n<s.pts) (hy0:0≤y0∧y0<s.pts+1) (hn0:0≤n0∧n0<s.pts+1) (ht:0≤s.tmp) :
    Lo E.nv na (fun p=>p=f) s (h1 s.pts y n (h0 f y0 n0 s.fresh)) (b0 f y0 n0 s.fresh++b1 s.pts y n (h0 f y0 n0 s.fresh)):=by
 have p1:s.fresh.pts=s.pts+1:=rfl
 have t1:s.fresh.tmp=s.tmp:=rfl
 have k0:=g0 f y0 n0 s.fresh hf.1 (by omega) hy0.1 (by omega) hn0.1 (by omega) (by omega)
 have hP:=k0.pts
 have hT:=k0.tmp
 have k1:=g1 s.pts y n (h0 f y0 n0 s.fresh) (by omega) (by omega) hy.1 (by omega) hn.1 (by omega) (by omega)
 refine Lo.app (k0.from (s:=s) rfl (by omega) (by omega) rfl) k1 (fun p hp e=>?_) (fun p hp=>by omega) (fun p hp=>hp) (fun p hp=>.inr (by omega))
 have:=k0.rg p hp
 omega
mutual
theorem cdN_lo {G:Gd} {E:Lv} (hn:Nmd G E):∀ (x:Nd),gdN G x→x.ty=.C→CdLo E G.na (cdN E x) (cdB E x)
 | .mk ty k m nm xs cs ts es,hg,hty=>by
   simp only [Nd.ty] at hty
   subst hty
   unfold gdN at hg
   obtain ⟨⟨k1,k6,kl3,kl4,kl5⟩,hxs,hcs,-⟩:=hg
   intro f y n s f0 f1 y0 y1 n0 n1 ht
   rw [cdN,cdB]
   unfold cdK cdKB
   by_cases e1:k=1
   · rw [if_pos e1,if_pos e1]
     exact one_lo (.inl rfl) ⟨f0,f1⟩ ⟨y0,y1⟩
   rw [if_neg e1,if_neg e1]
   by_cases e2:k=2
   · rw [if_pos e2,if_pos e2]
     exact one_lo (.inl rfl) ⟨f0,f1⟩ ⟨n0,n1⟩
   rw [if_neg e2,if_neg e2]
   by_cases e3:k=3
   · rw [if_pos e3,if_pos e3]
     exact cmp_lo hn hxs (kl3 e3).1 (kl3 e3).2 ⟨f0,f1⟩ ⟨y0,y1⟩ ⟨n0,n1⟩ ht
   rw [if_neg e3,if_neg e3]
   by_cases e4:k=4
   · rw [if_pos e4,if_pos e4]
     exact cdL_lo hn cs hcs 0 (by have:=kl4 e4;omega) f n y s f0 f1 n0 n1 y0 y1 ht
   rw [if_neg e4,if_neg e4]
   have hl:=kl5 (by omega)
   by_cases e5:k=5
   · rw [if_pos e5,if_pos e5]
     exact and_lo (cdL_lo hn cs hcs 0 (by omega)) (cdL_lo hn cs hcs 1 (by omega)) ⟨f0,f1⟩ ⟨y0,y1⟩ ⟨n0,n1⟩ ⟨by omega,by omega⟩ ⟨n0,by omega⟩ ht
   rw [if_neg e5,if_neg e5]
   exact and_lo (cdL_lo hn cs hcs 0 (by omega)) (cdL_lo hn cs hcs 1 (by omega)) ⟨f0,f1⟩ ⟨y0,y1⟩ ⟨n0,n1⟩ ⟨y0,by omega⟩ ⟨by omega,by omega⟩ ht
theorem cdL_lo {G:Gd} {E:Lv} (hn:Nmd G E):∀ (l:List Nd),gdL G .C l→∀ (i:Nat),i<l.length→CdLo E G.na (cnR (cdL E l) i) (cnB (cdBL E l) i)
 | [],_,i,hi=>by simp at hi
 | x :: r,hg,0,_=>by
   unfold gdL at hg
   have:=cdN_lo hn x hg.2.1 hg.1
   unfold cdL cnR cdBL cnB
   exact this
 | x :: r,hg,i+1,hi=>by
   unfold gdL at hg
   have:=cdL_lo hn r hg.2.2 i (by simpa using hi)
   unfold cdL cdBL
   unfold cnR cnB at this ⊢
   simpa using this
end
def BkLo (E:Lv) (na:Nat) (e:Bool) (h:Int→Int→Lw→Lw) (b:Int→Int→Lw→List Bt):Prop:=∀ (f t:Int) (s:Lw),0≤f→f<s.pts→0≤t→t<s.pts→0≤s.tmp→0≤s.ext→s.ext<s.pts→Lo E.nv na (fun p=>e=false∧p=f) s (h f t s) (b f t s)
theorem beg_pts (e:Bool) (s:Lw):(begS e s).pts=s.pts+(if e then 0 else 1)∧(begS e s).tmp=s.tmp∧(begS e s).eds=s.eds∧(begS e s).ext=s.ext:=by
 cases e
 · exact ⟨rfl,rfl,rfl,rfl⟩
 · exact ⟨by simp [begS],rfl,rfl,rfl⟩
theorem lwK_lo {G:Gd} {E:Lv} (hn:Nmd G E) {k:Int} {nm:ByteArray} {xs cs:List Nd} {te ee:Bool} {tb eb:Int→Int→Lw→Lw} {tB eB:Int→Int→Lw→List Bt} (hsh:gdK G .S k 0 nm xs.length cs.length) (hxs:gdL G .E xs) (hcs:gdL G .C cs) (ht:BkLo E G.na te tb tB) (he:BkLo E G.na ee eb eB)
    (f t:Int) (s:Lw) (f0:0≤f) (f1:f<s.pts) (t0:0≤t) (t1:t<s.pts) (hT:0≤s.tmp) (x0:0≤s.ext) (x1:s.ext<s.pts) :
    Lo E.nv G.na (fun p=>p=f) s (lwK E k nm xs (cdL E cs) te ee tb eb f t s) (lwKB E k nm xs (cdL E cs) (cdBL E cs) te ee tb tB eB f t s):=by
 obtain ⟨k1,k7,kl1,kl2,kl3,kv,ka⟩:=hsh
 unfold lwK lwKB
 by_cases e1:k=1
 · rw [if_pos e1,if_pos e1]
   obtain ⟨x,rfl⟩:=List.length_eq_one_iff.1 (kl1 e1)
   simp only [List.getD_cons_zero]
   have hx:x.ty=.E∧gdN G x:=by unfold gdL at hxs;exact ⟨hxs.1,hxs.2.1⟩
   have hv:=kv e1
   rw [hn.pl,hn.nv] at hv
   unfold asgP asgB
   obtain ⟨ty,k',n',nm',xs',cs',ts',es'⟩:=x
   obtain ⟨hty,hgx⟩:=hx
   simp only [Nd.ty] at hty
   subst hty
   have hgx':=hgx
   unfold gdN at hgx'
   obtain ⟨⟨-,-,-,-,-,-,kv',-⟩,hxs',-⟩:=hgx'
   cases hs:simN E (.mk .E k' n' nm' xs' cs' ts' es') with
   | some o =>
     obtain ⟨g1,-⟩:=sim_opd (show simK E k' nm' (conK k' n' xs')=some o from hs) (fun h=>by rw [← hn.pl,← hn.nv];exact kv' h) hT
     refine Lo.one (e:=⟨f,t,2,(E.pl nm:Int),-1,0,o.1,o.2,-1,0⟩) (by simp) ⟨by simp,⟨f0,f1⟩,⟨t0,t1⟩,.inl ⟨by simp,by simp only;omega⟩,by simp,by simp,.inl ⟨by simp,g1⟩,by simp⟩
   | none =>
     have hops:=opsL_lo hn xs' f 0 s hxs' f0 f1 (by omega) hT
     exact into_lo hn (x:=.mk .E k' n' nm' xs' cs' ts' es') hgx rfl hs ⟨by omega,by omega⟩ ⟨f0,f1⟩ ⟨t0,t1⟩ hops
 rw [if_neg e1,if_neg e1]
 by_cases e2:k=2
 · rw [if_pos e2,if_pos e2]
   have ho:=opsL_lo hn xs f 0 s hxs f0 f1 (by omega) hT
   obtain ⟨a,b,hab⟩:=len2 ((opsLen E xs f 0 s).trans (kl2 e2))
   have ha:=ho.o a (by rw [hab];simp)
   have hb:=ho.o b (by rw [hab];simp)
   have hP:=ho.lo.pts
   have hv:=ka e2
   rw [hn.pl] at hv
   have hE:EdP (E.nv+(opsL E xs f 0 s).2.2.tmp) G.na (opsL E xs f 0 s).2.2.pts (stoE E nm xs f t s):=by
    refine ⟨by simp [stoE],⟨ho.x0,ho.x1⟩,⟨t0,by simp only [stoE];omega⟩,by simp [stoE],.inl ⟨by simp [stoE],by simp only [stoE];omega⟩,by simp [stoE],.inl ⟨by simp [stoE],?_⟩,.inl ⟨by simp [stoE],?_⟩⟩
    · simp only [stoE,hab,op0,List.getD_cons_zero]
      exact ha
    · simp only [stoE,hab,op1,List.getD_cons_succ,List.getD_cons_zero]
      exact hb
   have hone:=Lo.one (nv:=E.nv) (na:=G.na) (s:=(opsL E xs f 0 s).2.2) (by simp [stoE]) hE
   exact ho.lo.app hone (fun p hp e=>ho.xn p hp e) (fun p hp=>by omega) (fun p hp=>hp) (fun p hp=>by
    have e:p=(opsL E xs f 0 s).2.1:=hp
    have:=ho.xq
    have:=ho.x1
    omega)
 rw [if_neg e2,if_neg e2]
 have hc (h:3≤k∧k≤6):CdLo E G.na (cnR (cdL E cs) 0) (cnB (cdBL E cs) 0):=cdL_lo hn cs hcs 0 (by have:=kl3 h;omega)
 by_cases e3:k=3
 · rw [if_pos e3,if_pos e3]
   obtain ⟨p1,q1,r1,u1⟩:=beg_pts te s
   obtain ⟨p2,q2,r2,u2⟩:=beg_pts ee (begS te s)
   obtain ⟨y,hy⟩:∃ y,begP te t s=y:=⟨_,rfl⟩
   obtain ⟨n,hn'⟩:∃ n,begP ee t (begS te s)=n:=⟨_,rfl⟩
   rw [hy,hn']
   obtain ⟨S,hS⟩:∃ S,begS ee (begS te s)=S:=⟨_,rfl⟩
   rw [hS] at p2 q2 r2 u2 ⊢
   have hyc:(te=true∧y=t)∨(te=false∧y=s.pts):=by cases te<;>simp [begP] at hy<;>simp [hy]
   have hnc:(ee=true∧n=t)∨(ee=false∧n=s.pts+(if te then 0 else 1)):=by cases ee<;>simp [begP] at hn'<;>simp [← hn',p1]
   have hcd:=hc ⟨by omega,by omega⟩ f y n S f0 (by cases te<;>cases ee<;>simp at p1 p2<;>omega) (by rcases hyc with ⟨_,h⟩ | ⟨_,h⟩<;>omega) (by cases te<;>cases ee<;>simp at p1 p2 hyc<;>omega) (by cases te<;>cases ee<;>simp at p1 p2 hnc<;>omega) (by cases te<;>cases ee<;>simp at p1 p2 hnc<;>omega) (by omega)
   have hPS:s.pts≤S.pts:=by cases te<;>cases ee<;>simp at p1 p2<;>omega
   have hPc:=hcd.pts
   have hTc:=hcd.tmp
   have hXc:=hcd.ext
   have htb:=ht y t (cnR (cdL E cs) 0 f y n S) (by rcases hyc with ⟨_,h⟩ | ⟨_,h⟩<;>omega) (by cases te<;>cases ee<;>simp at p1 p2 hyc<;>omega) t0 (by omega) (by omega) (by omega) (by omega)
   have hPt:=htb.pts
   have hTt:=htb.tmp
   have hXt:=htb.ext
   have heb:=he n t (tb y t (cnR (cdL E cs) 0 f y n S)) (by cases te<;>cases ee<;>simp at p1 p2 hnc<;>omega) (by cases te<;>cases ee<;>simp at p1 p2 hnc<;>omega) t0 (by omega) (by omega) (by omega) (by omega)
   have h12:=Lo.app (I:=fun p=>(te=false∧p=y)∨(ee=false∧p=n)) htb heb (fun p hp e=>by
    have:=htb.rg p hp
    obtain ⟨e1,e2⟩:=e
    rcases hnc with ⟨h,_⟩ | ⟨_,h⟩
    · rw [h] at e1;cases e1
    · rcases this with ⟨a1,a2⟩ | ⟨a1,a2⟩
      · rcases hyc with ⟨b,_⟩ | ⟨b,b2⟩
        · rw [b] at a1;cases a1
        · subst b;simp at h;omega
      · subst e1;cases te<;>simp at p1 p2 h<;>omega) (fun p hp=>by have:=hp.2;cases te<;>cases ee<;>simp at p1 p2 hyc<;>omega) (fun p hp=>.inl hp) (fun p hp=>.inl (.inr hp))
   refine Lo.app (hcd.from (s:=s) (by rw [r2,r1]) hPS (by omega) (by rw [u2,u1])) h12 (fun p hp e=>?_) (fun p hp=>by omega) (fun p hp=>hp) (fun p hp=>.inr ?_)
   · have:=hcd.rg p hp
     rcases e with ⟨a1,a2⟩ | ⟨a1,a2⟩
     · subst a1;cases ee<;>simp at p1 p2 hyc<;>omega
     · subst a1;cases te<;>simp at p1 p2 hnc<;>omega
   · rcases hp with ⟨a1,a2⟩ | ⟨a1,a2⟩
     · subst a1;cases ee<;>simp at p1 p2 hyc<;>omega
     · subst a1;cases te<;>simp at p1 p2 hnc<;>omega
 rw [if_neg e3,if_neg e3]
 by_cases e4:k=4
 · rw [if_pos e4,if_pos e4]
   obtain ⟨p1,q1,r1,u1⟩:=beg_pts te s
   obtain ⟨y,hy⟩:∃ y,begP te f s=y:=⟨_,rfl⟩
   rw [hy]
   obtain ⟨S,hS⟩:∃ S,begS te s=S:=⟨_,rfl⟩
   rw [hS] at p1 q1 r1 u1 ⊢
   have hyc:(te=true∧y=f)∨(te=false∧y=s.pts):=by cases te<;>simp [begP] at hy<;>simp [hy]
   have hcd:=hc ⟨by omega,by omega⟩ f y t S f0 (by cases te<;>simp at p1<;>omega) (by rcases hyc with ⟨_,h⟩ | ⟨_,h⟩<;>omega) (by cases te<;>simp at p1 hyc<;>omega) t0 (by cases te<;>simp at p1<;>omega) (by omega)
   have hPS:s.pts≤S.pts:=by cases te<;>simp at p1<;>omega
   have hPc:=hcd.pts
   have hTc:=hcd.tmp
   have hXc:=hcd.ext
   have htb:=ht y f (cnR (cdL E cs) 0 f y t S) (by rcases hyc with ⟨_,h⟩ | ⟨_,h⟩<;>omega) (by cases te<;>simp at p1 hyc<;>omega) f0 (by omega) (by omega) (by omega) (by omega)
   refine Lo.app (hcd.from (s:=s) r1 hPS (by omega) u1) htb (fun p hp e=>?_) (fun p hp=>by omega) (fun p hp=>hp) (fun p hp=>.inr ?_)
   · have:=hcd.rg p hp
     obtain ⟨a1,a2⟩:=e
     subst a1;simp at p1 hyc;omega
   · obtain ⟨a1,a2⟩:=hp
     subst a1;simp at p1 hyc;omega
 rw [if_neg e4,if_neg e4]
 by_cases e5:k=5
 · rw [if_pos e5,if_pos e5]
   have p1:s.fresh.fresh.pts=s.pts+1+1:=rfl
   have q1:s.fresh.fresh.tmp=s.tmp:=rfl
   have hcd:=hc ⟨by omega,by omega⟩ f s.pts (s.pts+1) s.fresh.fresh f0 (by omega) (by omega) (by omega) (by omega) (by omega) (by omega)
   have hPc:=hcd.pts
   have hTc:=hcd.tmp
   obtain ⟨S,hS⟩:∃ S,cnR (cdL E cs) 0 f s.pts (s.pts+1) s.fresh.fresh=S:=⟨_,rfl⟩
   rw [hS] at hcd hPc hTc ⊢
   have g1:=one_lo (nv:=E.nv) (na:=G.na) (f:=s.pts) (t:=t) (k:=13) (s:=S) (.inr (.inl rfl)) ⟨by omega,by omega⟩ ⟨t0,by omega⟩
   have p2:(S.add (edgeE s.pts t 13)).pts=S.pts:=rfl
   have g2:=one_lo (nv:=E.nv) (na:=G.na) (f:=s.pts+1) (t:=t) (k:=14) (s:=S.add (edgeE s.pts t 13)) (.inr (.inr rfl)) ⟨by omega,by omega⟩ ⟨t0,by omega⟩
   have g12:=Lo.app (I:=fun p=>p=s.pts∨p=s.pts+1) g1 g2 (fun p hp e=>by
    have h:p=s.pts:=by simpa [ptsB,Bt.pt,edgeE] using hp
    omega) (fun p hp=>by omega) (fun p hp=>.inl hp) (fun p hp=>.inl (.inr hp))
   refine Lo.app (hcd.from (s:=s) rfl (by omega) (by omega) rfl) g12 (fun p hp e=>?_) (fun p hp=>by omega) (fun p hp=>hp) (fun p hp=>.inr (by omega))
   have:=hcd.rg p hp
   omega
 rw [if_neg e5,if_neg e5]
 by_cases e6:k=6
 · rw [if_pos e6,if_pos e6]
   exact hc ⟨by omega,by omega⟩ f t s.ext s f0 f1 t0 t1 x0 x1 hT
 rw [if_neg e6,if_neg e6]
 exact one_lo (.inl rfl) ⟨f0,f1⟩ ⟨t0,t1⟩
theorem Lo.into {nv na:Nat} {I J:Int→Prop} {s s':Lw} {bs:List Bt} (h:Lo nv na I s s' bs) (hi:∀ p,I p→J p∨(s.pts≤p∧p<s'.pts)):Lo nv na J s s' bs:=⟨h.eds,h.nd,fun p hp=>(h.rg p hp).elim (hi p) .inr,h.pts,h.tmp,h.ext,h.ok,h.ed⟩
def LsLo (E:Lv) (na:Nat) (l:List Nd):Prop:=∀ (f p t:Int) (s:Lw),0≤f→f<p→p+((l.length - 1:Nat):Int)≤s.pts→f<s.pts→0≤t→t<s.pts→0≤s.tmp→0≤s.ext→s.ext<s.pts →
 Lo E.nv na (fun x=>l.isEmpty=false∧(x=f∨(p≤x∧x<p+((l.length - 1:Nat):Int)))) s (lwL E l f p t s) (lwBL E l f p t s)
theorem blk_lo {E:Lv} {na:Nat} {l:List Nd} (h:LsLo E na l):BkLo E na l.isEmpty (blkF l.length (lwL E l)) (blkB l.length (lwBL E l)):=by
 intro f t s f0 f1 t0 t1 hT x0 x1
 unfold blkF blkB
 have p1:(s.more (l.length - 1)).pts=s.pts+((l.length - 1:Nat):Int):=rfl
 have k:=h f s.pts t (s.more (l.length - 1)) f0 f1 (by omega) (by omega) t0 (by omega) hT x0 (by show s.ext<_;omega)
 have hP:=k.pts
 refine (k.from (s:=s) rfl (by omega) (Int.le_refl _) rfl).into (fun p hp=>?_)
 obtain ⟨a1,a2⟩:=hp
 rcases a2 with a2 | a2
 · exact .inl ⟨a1,a2⟩
 · exact .inr (by omega)
mutual
theorem lwN_lo {G:Gd} {E:Lv} (hn:Nmd G E):∀ (x:Nd),gdN G x→x.ty=.S→∀ (f t:Int) (s:Lw),0≤f→f<s.pts→0≤t→t<s.pts→0≤s.tmp→0≤s.ext→s.ext<s.pts→Lo E.nv G.na (fun p=>p=f) s (lwN E x f t s) (lwB' E x f t s)
 | .mk ty k m nm xs cs ts es,hg,hty=>by
   simp only [Nd.ty] at hty
   subst hty
   unfold gdN at hg
   obtain ⟨hsh,hxs,hcs,hts,hes⟩:=hg
   intro f t s f0 f1 t0 t1 hT x0 x1
   rw [lwN,lwB']
   exact lwK_lo hn hsh hxs hcs (blk_lo (lwL_lo hn ts hts)) (blk_lo (lwL_lo hn es hes)) f t s f0 f1 t0 t1 hT x0 x1
theorem lwL_lo {G:Gd} {E:Lv} (hn:Nmd G E):∀ (l:List Nd),gdL G .S l→LsLo E G.na l
 | [],_=>by
   intro f p t s _ _ _ _ _ _ _ _ _
   rw [lwL,lwBL]
   exact Lo.nil rfl (Int.le_refl _) (Int.le_refl _) rfl
 | x :: r,hg=>by
   intro f p t s f0 fp hp f1 t0 t1 hT x0 x1
   unfold gdL at hg
   obtain ⟨hty,hx,hr⟩:=hg
   have hl:(((x :: r).length - 1:Nat):Int)=(r.length:Int):=by simp
   rw [hl] at hp ⊢
   obtain ⟨u,hu⟩:∃ u,(if r.isEmpty then t else p)=u:=⟨_,rfl⟩
   rw [lwL,lwBL,hu]
   have huc:(r.isEmpty=true∧u=t)∨(r.isEmpty=false∧u=p∧1≤r.length):=by
    cases r with
    | nil=>left;exact ⟨rfl,by simpa using hu.symm⟩
    | cons y r=>right;exact ⟨rfl,by simpa using hu.symm,by simp⟩
   have h1:=lwN_lo hn x hx hty f u s f0 f1 (by omega) (by omega) hT x0 x1
   have hP:=h1.pts
   have hTT:=h1.tmp
   have hX:=h1.ext
   rcases huc with ⟨a1,a2⟩ | ⟨a1,a2,a3⟩
   · obtain rfl:r=[]:=by simpa using a1
     rw [lwL,lwBL,List.append_nil]
     exact h1.mono (fun q hq=>⟨rfl,.inl hq⟩)
   · have hrl:((r.length - 1:Nat):Int)=(r.length:Int) - 1:=by omega
     have h2:=lwL_lo hn r hr u (p+1) t (lwN E x f u s) (by omega) (by omega) (by omega) (by omega) t0 (by omega) (by omega) (by omega) (by omega)
     refine Lo.app h1 h2 (fun q hq e=>?_) (fun q hq=>by omega) (fun q hq=>⟨rfl,.inl hq⟩) (fun q hq=>.inl ⟨rfl,?_⟩)
     · have:=h1.rg q hq
       have e2:=e.2
       omega
     · have e2:=hq.2
       omega
end
theorem low_lo {G:Gd} {E:Lv} (hn:Nmd G E) {ss:List Nd} (hg:gdL G .S ss):(lowP E ss).eds=flat (lowB E ss)∧(ptsB (lowB E ss)).Nodup∧(∀ p ∈ ptsB (lowB E ss),0≤p∧p<(lowP E ss).pts∧p≠(lowP E ss).ext)∧(∀ b ∈ lowB E ss,b.ok)∧(∀ b ∈ lowB E ss,∀ e ∈ b.eds,EdP (E.nv+(lowP E ss).tmp) G.na (lowP E ss).pts e)∧0≤(lowP E ss).ext∧(lowP E ss).ext<(lowP E ss).pts∧0≤(lowP E ss).tmp:=by
 cases ss with
 | nil =>
   have h:=blk_lo (lwL_lo hn [] hg) 0 0 ⟨1,0,0,[]⟩ (by decide) (by decide) (by decide) (by decide) (by decide) (by decide) (by decide)
   have e:lowP E []=blkF 0 (lwL E []) 0 0 ⟨1,0,0,[]⟩:=rfl
   have e2:lowB E []=blkB 0 (lwBL E []) 0 0 ⟨1,0,0,[]⟩:=rfl
   rw [e,e2]
   have hP:=h.pts
   have hX:=h.ext
   have hT:=h.tmp
   simp only [List.length_nil,List.isEmpty_nil] at h hP hX hT
   refine ⟨h.eds,h.nd,fun p hp=>?_,h.ok,h.ed,by omega,by omega,by omega⟩
   unfold blkB at hp
   rw [lwBL] at hp
   cases hp
 | cons x r =>
   have h:=blk_lo (lwL_lo hn (x :: r) hg) 0 1 ⟨2,0,1,[]⟩ (by decide) (by decide) (by decide) (by decide) (by decide) (by decide) (by decide)
   have e:lowP E (x :: r)=blkF (x :: r).length (lwL E (x :: r)) 0 1 ⟨2,0,1,[]⟩:=rfl
   have e2:lowB E (x :: r)=blkB (x :: r).length (lwBL E (x :: r)) 0 1 ⟨2,0,1,[]⟩:=rfl
   rw [e,e2]
   have hP:=h.pts
   have hX:=h.ext
   have hT:=h.tmp
   simp only at hP hX hT
   refine ⟨h.eds,h.nd,fun p hp=>?_,h.ok,h.ed,by omega,by omega,by omega⟩
   have:=h.rg p hp
   simp only at this
   omega
end Go.Proofs.YtmohmggnjldddaaGreatDoor
