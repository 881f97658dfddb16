/-
  Plain: what form a well program's trees have; how many nodes they are.
-/
import Derived.Test.YtmohmggnjldddaaGreatDoorQOnO
import Derived.Test.YtmohmggnjldddaaGreatDoorQLook
namespace Go.Proofs.YtmohmggnjldddaaGreatDoor
open Go Go.RowKit Go.Maps
def fewB (n:Nat) (k:Int):Bool:=decide (n≤3000∧(k≤3000 ∨ 65536 < k))
set_option maxRecDepth 100000 in
set_option maxHeartbeats 4000000 in
theorem few_any (a:Option Addr) (n c:Nat) (k:Int) (w:World) :
    Calls Tryz.prog 10 #[.slice a n c,.int .i64 k] w (fun e w'=>e=.returned (.bool (fewB n k))∧w'=w):=by
 by_cases h1:n≤3000
 · have t1:decide ((n:Int)≤3000)=true:=decide_eq_true (by omega)
   by_cases h2:k≤3000
   · have e:fewB n k=true:=decide_eq_true ⟨h1,.inl h2⟩
     have t2:decide (k≤3000)=true:=decide_eq_true h2
     rw [e]
     clear h1 h2 e
     go_enter Tryz.func10,Tryz.ntmps10
     go_wp2
     all_goals (go_ret;exact ⟨rfl,rfl⟩)
   · have t2:decide (k≤3000)=false:=decide_eq_false h2
     by_cases h3:65536 < k
     · have e:fewB n k=true:=decide_eq_true ⟨h1,.inr h3⟩
       have t3:decide (65536 < k)=true:=decide_eq_true h3
       rw [e]
       clear h1 h2 h3 e
       go_enter Tryz.func10,Tryz.ntmps10
       go_wp2
       all_goals (go_ret;exact ⟨rfl,rfl⟩)
     · have e:fewB n k=false:=decide_eq_false (by omega)
       have t3:decide (65536 < k)=false:=decide_eq_false h3
       rw [e]
       clear h1 h2 h3 e
       go_enter Tryz.func10,Tryz.ntmps10
       go_wp2
       all_goals (go_ret;exact ⟨rfl,rfl⟩)
 · have t1:decide ((n:Int)≤3000)=false:=decide_eq_false (by omega)
   have e:fewB n k=false:=decide_eq_false (by omega)
   rw [e]
   clear h1 e
   go_enter Tryz.func10,Tryz.ntmps10
   go_wp2
   all_goals (go_ret;exact ⟨rfl,rfl⟩)
set_option maxRecDepth 100000 in
set_option maxHeartbeats 4000000 in
theorem longs_zero (w:World) :
    Calls Tryz.prog 33 #[.slice none 0 0,.slice none 0 0] w (fun e w'=>e=.returned (.bool true)∧Below w.heap.size w w'):=by
 go_enter Tryz.func33,Tryz.ntmps33
 go_wp2_with fail
 go_loopw [5] (fun x wr=>x=.int .i64 0∧Below w.heap.size w wr) (fun _ _=>0)
 case atStart=>exact ⟨rfl,Below.refl _ _⟩
 case round =>
  obtain ⟨rfl,hb⟩:=hrel
  go_wp2_with fail
  go_ret
  exact ⟨rfl,hb⟩
set_option maxRecDepth 100000 in
set_option maxHeartbeats 4000000 in
theorem outcome_zero (w:World) :
    Calls Tryz.prog 13 #[zeroO,zeroO] w (fun e w'=>e=.returned (.bool true)∧Below w.heap.size w w'):=by
 have HLV:=Lib.hid (fun W=>longs_zero W)
 have HBW:=Lib.hid (fun (o1 o2:Obj)=>((Below.refl w.heap.size w).alloc (Nat.le_refl _) o1).alloc (by simp) o2)
 unfold zeroO
 go_enter Tryz.func13,Tryz.ntmps13
 go_wp2_with (first | (go_at_call 33;(with_reducible refine (HLV.out _).mono ?_);rintro e w1 ⟨rfl,hb1⟩;have HW1:=Lib.hid (And.intro (((Blk.new w _ _).alloc _).next hb1) (And.intro ((Blk.at (b:=w.heap.size+1) (by simp)).next hb1) ((HBW.out _ _).trans (hb1.mono (HBW.out _ _).size))));clear hb1;have p5:w1.cell? ⟨w.heap.size,5,none⟩=some (.slice none 0 0):=HW1.out.1.cell 5;have q5:w1.cell? ⟨w.heap.size+1,5,none⟩=some (.slice none 0 0):=HW1.out.2.1.cell 5) | fail)
 clear p5 q5
 go_loopw [5] (fun x wr=>x=.int .i64 0∧Below w1.heap.size w1 wr) (fun _ _=>0)
 case atStart=>exact ⟨rfl,Below.refl _ _⟩
 case round =>
  obtain ⟨rfl,hbr⟩:=hrel
  have c0:wr.cell? ⟨w.heap.size,3,none⟩=some (.slice none 0 0):=(HW1.out.1.next hbr).cell 3
  have d0:wr.cell? ⟨w.heap.size+1,3,none⟩=some (.slice none 0 0):=(HW1.out.2.1.next hbr).cell 3
  have HBR:=Lib.hid (hbr.mono HW1.out.2.2.size |> HW1.out.2.2.trans)
  have HX:=Lib.hid (And.intro (HW1.out.1.next hbr) (HW1.out.2.1.next hbr))
  clear hbr
  go_wp2_with fail
  clear c0 d0
  obtain ⟨wm,hwm⟩:∃ x,x=wr:=⟨_,rfl⟩
  subst hwm
  go_loopw [6] (fun x wz=>x=.int .i64 0∧Below wm.heap.size wm wz) (fun _ _=>0)
  case atStart=>exact ⟨rfl,Below.refl _ _⟩
  case round =>
   obtain ⟨rfl,hbz⟩:=hrel
   have c0:wr.cell? ⟨w.heap.size,5,none⟩=some (.slice none 0 0):=(HX.out.1.next hbz).cell 5
   have d0:wr.cell? ⟨w.heap.size+1,5,none⟩=some (.slice none 0 0):=(HX.out.2.next hbz).cell 5
   have HBZ:=Lib.hid (HBR.out.trans (hbz.mono HBR.out.size))
   clear hbz
   go_wp2_with fail
   go_ret
   exact ⟨rfl,HBZ.out⟩
def OForm (u:Value):Prop:=∃ (i0 i1 i2:Int) (a3 a4 a5:Option Addr) (n3 c3 n4 c4 n5 c5:Nat),u=.agg #[.int .i64 i0,.int .i64 i1,.int .i64 i2,.slice a3 n3 c3,.slice a4 n4 c4,.slice a5 n5 c5]
theorem zero_form:OForm zeroO:=⟨0,0,0,none,none,none,0,0,0,0,0,0,rfl⟩
theorem OutIn.oform {w:World} {lo:Nat} {o:Int × Int × Rn} {v:Value} (h:OutIn w lo o v):OForm v:=by
 obtain ⟨ve,vv,va,rfl,he,hv,ha,-⟩:=h
 obtain ⟨a3,c3,rfl⟩:=he.form
 obtain ⟨b4,c4,rfl⟩:=hv.form
 obtain ⟨a5,c5,rfl⟩:=ha.form
 exact ⟨_,_,_,_,_,_,_,_,_,_,_,_,rfl⟩
open Go Go.RowKit
structure Ed where
 fr:Int
 dt:Int
 kd:Int
 dst:Int
 arr:Int
 op:Int
 av:Int
 an:Int
 bv:Int
 bn:Int
structure Lw where
 pts:Int
 tmp:Int
 ext:Int
 eds:List Ed
structure Lv where
 pl:ByteArray→Nat
 nv:Nat
def edgeE (f t k:Int):Ed:=⟨f,t,k,-1,-1,0,-1,0,-1,0⟩
def Lw.fresh (s:Lw):Lw:={ s with pts:=s.pts+1 }
def Lw.add (s:Lw) (e:Ed):Lw:={ s with eds:=s.eds ++ [e] }
def Lw.temp (s:Lw) (d:Int):Lw:={ s with tmp:=max s.tmp (d+1) }
def Lw.more (s:Lw) (n:Nat):Lw:={ s with pts:=s.pts+(n:Int) }
def kindK (k:Int):Int:=if k=3 then 9 else if k=4 then 10 else k - 2
def simK (E:Lv) (k:Int) (nm:ByteArray) (c:Option Int):Option (Int × Int):=match c with
 | some n=>some (-1,n)
 | none=>if k=2 then some ((E.pl nm:Int),0) else none
def simN (E:Lv):Nd→Option (Int × Int) | .mk _ k n nm xs _ _ _=>simK E k nm (conK k n xs)
def op0 (l:List (Int × Int)):Int × Int:=l.getD 0 (-1,0)
def op1 (l:List (Int × Int)):Int × Int:=l.getD 1 (-1,0)
def lastE (E:Lv) (k:Int) (nm:ByteArray) (dst e t:Int) (os:List (Int × Int)):Ed:=⟨e,t,kindK k,dst,if k=4 then (E.pl nm:Int) else -1,0,(op0 os).1,(op0 os).2,(op1 os).1,(op1 os).2⟩
def nextD (E:Lv) (o:Int × Int) (d:Int):Int:=if (E.nv:Int)≤o.1 then d+1 else d
mutual
def opN (E:Lv):Nd→Int→Int→Lw→(Int × Int) × Int × Lw
 | .mk _ k n nm xs _ _ _,q,d,s=>match simK E k nm (conK k n xs) with
   | some o=>(o,q,s)
   | none=>(((E.nv:Int)+d,0),s.pts,(opsL E xs q d (s.temp d).fresh).2.2.add (lastE E k nm ((E.nv:Int)+d) (opsL E xs q d (s.temp d).fresh).2.1 s.pts (opsL E xs q d (s.temp d).fresh).1))
def opsL (E:Lv):List Nd→Int→Int→Lw→List (Int × Int) × Int × Lw
 | [],q,_,s=>([],q,s)
 | x :: r,q,d,s=>((opN E x q d s).1 :: (opsL E r (opN E x q d s).2.1 (nextD E (opN E x q d s).1 d) (opN E x q d s).2.2).1,(opsL E r (opN E x q d s).2.1 (nextD E (opN E x q d s).1 d) (opN E x q d s).2.2).2)
end
def argsN:Nd→List Nd | .mk _ _ _ _ xs _ _ _=>xs
def nameN:Nd→ByteArray | .mk _ _ _ nm _ _ _ _=>nm
def intoN (E:Lv) (x:Nd) (dst f t d:Int) (s:Lw):Lw:=(opsL E (argsN x) f d s).2.2.add (lastE E (kindN x) (nameN x) dst (opsL E (argsN x) f d s).2.1 t (opsL E (argsN x) f d s).1)
theorem opN_some {E:Lv} {x:Nd} {o:Int × Int} (h:simN E x=some o) (q d:Int) (s:Lw):opN E x q d s=(o,q,s):=by
 cases x
 simp only [simN] at h
 rw [opN,h]
theorem opN_none {E:Lv} {x:Nd} (h:simN E x=none) (q d:Int) (s:Lw):opN E x q d s=(((E.nv:Int)+d,0),s.pts,intoN E x ((E.nv:Int)+d) q s.pts d (s.temp d).fresh):=by
 cases x
 simp only [simN] at h
 rw [opN,h]
 rfl
def cnR (hs:List (Int→Int→Int→Lw→Lw)) (i:Nat):Int→Int→Int→Lw→Lw:=hs.getD i (fun _ _ _ s=>s)
def cmpE (E:Lv) (op:Int) (xs:List Nd) (f y n:Int) (s:Lw):Lw :=
 ((opsL E xs f 0 s).2.2.add ⟨(opsL E xs f 0 s).2.1,y,12,-1,-1,op,(op0 (opsL E xs f 0 s).1).1,(op0 (opsL E xs f 0 s).1).2,(op1 (opsL E xs f 0 s).1).1,(op1 (opsL E xs f 0 s).1).2⟩).add
   ⟨(opsL E xs f 0 s).2.1,n,12,-1,-1,notI op,(op0 (opsL E xs f 0 s).1).1,(op0 (opsL E xs f 0 s).1).2,(op1 (opsL E xs f 0 s).1).1,(op1 (opsL E xs f 0 s).1).2⟩
def cdK (E:Lv) (k op:Int) (xs:List Nd) (hs:List (Int→Int→Int→Lw→Lw)) (f y n:Int) (s:Lw):Lw :=
 if k=1 then s.add (edgeE f y 1) else if k=2 then s.add (edgeE f n 1) else if k=3 then cmpE E op xs f y n s
 else if k=4 then cnR hs 0 f n y s
 else if k=5 then cnR hs 1 s.pts y n (cnR hs 0 f s.pts n s.fresh)
 else cnR hs 1 s.pts y n (cnR hs 0 f y s.pts s.fresh)
mutual
def cdN (E:Lv):Nd→Int→Int→Int→Lw→Lw
 | .mk _ k n _ xs cs _ _=>cdK E k n xs (cdL E cs)
def cdL (E:Lv):List Nd→List (Int→Int→Int→Lw→Lw)
 | []=>[]
 | x :: r=>cdN E x :: cdL E r
end
theorem cdL_at (E:Lv):∀ (l:List Nd) (i:Nat) (hi:i < l.length),cnR (cdL E l) i=cdN E l[i]
 | [],i,hi=>by simp at hi
 | x :: r,0,_=>by unfold cdL cnR;rfl
 | x :: r,i+1,hi=>by
   have h:=cdL_at E r i (by simpa using hi)
   unfold cdL
   unfold cnR at h ⊢
   simpa using h
def begP (e:Bool) (t:Int) (s:Lw):Int:=if e then t else s.pts
def begS (e:Bool) (s:Lw):Lw:=if e then s else s.fresh
def asgP (E:Lv) (nm:ByteArray) (x:Nd) (f t:Int) (s:Lw):Lw:=match simN E x with
 | some o=>s.add ⟨f,t,2,(E.pl nm:Int),-1,0,o.1,o.2,-1,0⟩
 | none=>intoN E x (E.pl nm:Int) f t 0 s
def stoP (E:Lv) (nm:ByteArray) (xs:List Nd) (f t:Int) (s:Lw):Lw :=
 (opsL E xs f 0 s).2.2.add ⟨(opsL E xs f 0 s).2.1,t,11,-1,(E.pl nm:Int),0,(op0 (opsL E xs f 0 s).1).1,(op0 (opsL E xs f 0 s).1).2,(op1 (opsL E xs f 0 s).1).1,(op1 (opsL E xs f 0 s).1).2⟩
def noNd:Nd:=.mk .E 1 0 ⟨#[]⟩ [] [] [] []
def lwK (E:Lv) (k:Int) (nm:ByteArray) (xs:List Nd) (hs:List (Int→Int→Int→Lw→Lw)) (te ee:Bool) (tb eb:Int→Int→Lw→Lw) (f t:Int) (s:Lw):Lw :=
 if k=1 then asgP E nm (xs.getD 0 noNd) f t s
 else if k=2 then stoP E nm xs f t s
 else if k=3 then eb (begP ee t (begS te s)) t (tb (begP te t s) t (cnR hs 0 f (begP te t s) (begP ee t (begS te s)) (begS ee (begS te s))))
 else if k=4 then tb (begP te f s) f (cnR hs 0 f (begP te f s) t (begS te s))
 else if k=5 then ((cnR hs 0 f s.pts (s.pts+1) s.fresh.fresh).add (edgeE s.pts t 13)).add (edgeE (s.pts+1) t 14)
 else if k=6 then cnR hs 0 f t s.ext s
 else s.add (edgeE f t 1)
def blkF (n:Nat) (b:Int→Int→Int→Lw→Lw) (f t:Int) (s:Lw):Lw:=b f s.pts t (s.more (n - 1))
mutual
def lwN (E:Lv):Nd→Int→Int→Lw→Lw
 | .mk _ k _ nm xs cs ts es=>lwK E k nm xs (cdL E cs) ts.isEmpty es.isEmpty (blkF ts.length (lwL E ts)) (blkF es.length (lwL E es))
def lwL (E:Lv):List Nd→Int→Int→Int→Lw→Lw
 | [],_,_,_,s=>s
 | x :: r,f,p,t,s=>lwL E r (if r.isEmpty then t else p) (p+1) t (lwN E x f (if r.isEmpty then t else p) s)
end
def lwB (E:Lv) (l:List Nd) (f t:Int) (s:Lw):Lw:=blkF l.length (lwL E l) f t s
def lowP (E:Lv) (ss:List Nd):Lw:=lwB E ss 0 (begP ss.isEmpty 0 ⟨1,0,0,[]⟩) { begS ss.isEmpty ⟨1,0,0,[]⟩ with ext:=begP ss.isEmpty 0 ⟨1,0,0,[]⟩ }
mutual
def szN:Nd→Nat
 | .mk _ _ _ _ xs cs ts es=>1+(szL xs+(szL cs+(szL ts+szL es)))
def szL:List Nd→Nat
 | []=>0
 | x :: r=>szN x+szL r
end
structure Gw (c e:Nat) (s s':Lw):Prop where
 p0:s.pts≤s'.pts
 p1:s'.pts≤s.pts+c
 e0:s.eds.length≤s'.eds.length
 e1:s'.eds.length≤s.eds.length+e
 ext:s'.ext=s.ext
theorem Gw.refl (s:Lw):Gw 0 0 s s:=⟨Int.le_refl _,by omega,Nat.le_refl _,Nat.le_refl _,rfl⟩
theorem Gw.trans {c e c' e':Nat} {a b d:Lw} (h:Gw c e a b) (k:Gw c' e' b d):Gw (c+c') (e+e') a d:=by
 obtain ⟨h1,h2,h3,h4,h5⟩:=h
 obtain ⟨k1,k2,k3,k4,k5⟩:=k
 exact ⟨by omega,by push_cast;omega,by omega,by omega,k5.trans h5⟩
theorem Gw.mono {c e c' e':Nat} {a b:Lw} (h:Gw c e a b) (hc:c≤c') (he:e≤e'):Gw c' e' a b:=by
 obtain ⟨h1,h2,h3,h4,h5⟩:=h
 exact ⟨h1,by omega,h3,by omega,h5⟩
theorem Gw.add (s:Lw) (e:Ed):Gw 0 1 s (s.add e):=⟨Int.le_refl _,by simp [Lw.add],by simp [Lw.add],by simp [Lw.add],rfl⟩
theorem Gw.fresh (s:Lw):Gw 1 0 s s.fresh:=⟨by simp only [Lw.fresh];omega,by simp [Lw.fresh],by simp [Lw.fresh],by simp [Lw.fresh],rfl⟩
theorem Gw.temp (s:Lw) (d:Int):Gw 0 0 s (s.temp d):=⟨Int.le_refl _,by simp [Lw.temp],by simp [Lw.temp],by simp [Lw.temp],rfl⟩
theorem Gw.more (s:Lw) (n:Nat):Gw n 0 s (s.more n):=⟨by simp only [Lw.more];omega,by simp [Lw.more],by simp [Lw.more],by simp [Lw.more],rfl⟩
theorem Gw.beg (e:Bool) (s:Lw):Gw 1 0 s (begS e s):=by
 unfold begS
 cases e
 · exact Gw.fresh s
 · exact (Gw.refl s).mono (by omega) (by omega)
mutual
theorem opN_gr (E:Lv):∀ (x:Nd) (q d:Int) (s:Lw),Gw (4 * szN x) (4 * szN x) s (opN E x q d s).2.2
 | .mk ty k n nm xs cs ts es,q,d,s=>by
   have hs:szN (.mk ty k n nm xs cs ts es)=1+(szL xs+(szL cs+(szL ts+szL es))):=by rw [szN]
   rw [opN]
   cases simK E k nm (conK k n xs) with
   | some o=>exact (Gw.refl s).mono (by omega) (by omega)
   | none=>exact ((((Gw.temp s d).trans (Gw.fresh _)).trans (opsL_gr E xs q d _)).trans (Gw.add _ _)).mono (by omega) (by omega)
theorem opsL_gr (E:Lv):∀ (l:List Nd) (q d:Int) (s:Lw),Gw (4 * szL l) (4 * szL l) s (opsL E l q d s).2.2
 | [],q,d,s=>by rw [opsL];exact (Gw.refl s).mono (by omega) (by omega)
 | x :: r,q,d,s=>by
   have hs:szL (x :: r)=szN x+szL r:=by rw [szL]
   rw [opsL]
   exact ((opN_gr E x q d s).trans (opsL_gr E r _ _ _)).mono (by omega) (by omega)
end
theorem args_sz (x:Nd):1+szL (argsN x)≤szN x:=by
 cases x
 rw [szN]
 simp only [argsN]
 omega
theorem into_gr (E:Lv) (x:Nd) (dst f t d:Int) (s:Lw):Gw (4 * szN x) (4 * szN x) s (intoN E x dst f t d s):=by
 have:=args_sz x
 unfold intoN
 exact ((opsL_gr E (argsN x) f d s).trans (Gw.add _ _)).mono (by omega) (by omega)
theorem cmp_gr (E:Lv) (op:Int) (xs:List Nd) (f y n:Int) (s:Lw):Gw (4 * szL xs) (4 * szL xs+2) s (cmpE E op xs f y n s):=by
 unfold cmpE
 exact (((opsL_gr E xs f 0 s).trans (Gw.add _ _)).trans (Gw.add _ _)).mono (by omega) (by omega)
theorem cdK_gr (E:Lv) (k op:Int) (xs:List Nd) {hs:List (Int→Int→Int→Lw→Lw)} {a0 a1 c:Nat} (h0:∀ f y n s,Gw a0 a0 s (cnR hs 0 f y n s)) (h1:∀ f y n s,Gw a1 a1 s (cnR hs 1 f y n s)) (hc:a0+a1≤c) (f y n:Int) (s:Lw):Gw (4+(4 * szL xs+c)) (4+(4 * szL xs+c)) s (cdK E k op xs hs f y n s):=by
 unfold cdK
 split
 · exact (Gw.add s _).mono (by omega) (by omega)
 split
 · exact (Gw.add s _).mono (by omega) (by omega)
 split
 · exact (cmp_gr E op xs f y n s).mono (by omega) (by omega)
 split
 · exact (h0 f n y s).mono (by omega) (by omega)
 split
 · exact (((Gw.fresh s).trans (h0 _ _ _ _)).trans (h1 _ _ _ _)).mono (by omega) (by omega)
 · exact (((Gw.fresh s).trans (h0 _ _ _ _)).trans (h1 _ _ _ _)).mono (by omega) (by omega)
def szA (l:List Nd) (i:Nat):Nat:=match l[i]? with
 | some x=>szN x
 | none=>0
theorem szA_le:∀ (l:List Nd),szA l 0+szA l 1≤szL l
 | []=>by simp [szA]
 | [x]=>by simp [szA,szL]
 | x :: y :: r=>by simp [szA,szL]
mutual
theorem cdN_gr (E:Lv):∀ (x:Nd) (f y n:Int) (s:Lw),Gw (4 * szN x) (4 * szN x) s (cdN E x f y n s)
 | .mk ty k m nm xs cs ts es,f,y,n,s=>by
   have hs:szN (.mk ty k m nm xs cs ts es)=1+(szL xs+(szL cs+(szL ts+szL es))):=by rw [szN]
   have:=szA_le cs
   rw [cdN]
   exact (cdK_gr E k m xs (fun f y n s=>cdL_gr E cs 0 f y n s) (fun f y n s=>cdL_gr E cs 1 f y n s) (c:=4 * szL cs) (by omega) f y n s).mono (by omega) (by omega)
theorem cdL_gr (E:Lv):∀ (l:List Nd) (i:Nat) (f y n:Int) (s:Lw),Gw (4 * szA l i) (4 * szA l i) s (cnR (cdL E l) i f y n s)
 | [],i,f,y,n,s=>by unfold cdL cnR;simp only [List.getD_nil];exact (Gw.refl s).mono (by omega) (by omega)
 | x :: r,0,f,y,n,s=>by
   have:=cdN_gr E x f y n s
   unfold cdL cnR
   exact this
 | x :: r,i+1,f,y,n,s=>by
   have:=cdL_gr E r i f y n s
   unfold cdL
   unfold cnR at this ⊢
   simpa [szA] using this
end
theorem getD_sz (l:List Nd):szN (l.getD 0 noNd)≤1+szL l:=by
 cases l with
 | nil=>simp [szN,szL,noNd]
 | cons x r=>simp [szL];omega
theorem asg_gr (E:Lv) (nm:ByteArray) (x:Nd) (f t:Int) (s:Lw):Gw (4 * szN x) (4 * szN x) s (asgP E nm x f t s):=by
 have:=args_sz x
 unfold asgP
 split
 · exact (Gw.add s _).mono (by omega) (by omega)
 · exact into_gr E x _ f t 0 s
theorem len_sz:∀ (l:List Nd),l.length≤szL l
 | []=>Nat.le_refl _
 | x :: r=>by
   have:=len_sz r
   have:=args_sz x
   rw [szL,List.length_cons]
   omega
theorem lwK_gr (E:Lv) (k:Int) (nm:ByteArray) {xs:List Nd} {hs:List (Int→Int→Int→Lw→Lw)} {te ee:Bool} {tb eb:Int→Int→Lw→Lw} {a b c x:Nat} (hx:k=1→szN (xs.getD 0 noNd)≤x) (hx2:szL xs≤x) (h0:∀ f y n s,Gw a a s (cnR hs 0 f y n s)) (ht:∀ f t s,Gw b b s (tb f t s)) (he:∀ f t s,Gw c c s (eb f t s)) (f t:Int) (s:Lw):Gw (2+(4 * x+a+(b+c))) (2+(4 * x+a+(b+c))) s (lwK E k nm xs hs te ee tb eb f t s):=by
 unfold lwK
 split
 · rename_i h1
   have:=hx h1
   exact (asg_gr E nm _ f t s).mono (by omega) (by omega)
 split
 · exact ((opsL_gr E xs f 0 s).trans (Gw.add _ _)).mono (by omega) (by omega)
 split
 · exact (((((Gw.beg te s).trans (Gw.beg ee _)).trans (h0 _ _ _ _)).trans (ht _ _ _)).trans (he _ _ _)).mono (by omega) (by omega)
 split
 · exact (((Gw.beg te s).trans (h0 _ _ _ _)).trans (ht _ _ _)).mono (by omega) (by omega)
 split
 · exact (((((Gw.fresh s).trans (Gw.fresh _)).trans (h0 _ _ _ _)).trans (Gw.add _ _)).trans (Gw.add _ _)).mono (by omega) (by omega)
 split
 · exact (h0 _ _ _ _).mono (by omega) (by omega)
 · exact (Gw.add s _).mono (by omega) (by omega)
theorem blk_gr {n c:Nat} {b:Int→Int→Int→Lw→Lw} (h:∀ f p t s,Gw c c s (b f p t s)) (f t:Int) (s:Lw):Gw (n - 1+c) (n - 1+c) s (blkF n b f t s):=by
 unfold blkF
 exact ((Gw.more s _).trans (h _ _ _ _)).mono (by omega) (by omega)
mutual
theorem lwN_gr (E:Lv):∀ (x:Nd) (f t:Int) (s:Lw),Gw (8 * szN x - 1) (8 * szN x - 1) s (lwN E x f t s)
 | .mk ty k n nm xs cs ts es,f,t,s=>by
   have hs:szN (.mk ty k n nm xs cs ts es)=1+(szL xs+(szL cs+(szL ts+szL es))):=by rw [szN]
   have h1:=getD_sz xs
   have h2:=szA_le cs
   have h3:=len_sz ts
   have h4:=len_sz es
   rw [lwN]
   exact (lwK_gr E k nm (x:=1+szL xs) (fun _=>h1) (by omega) (fun f y n s=>cdL_gr E cs 0 f y n s) (b:=8 * szL ts) (c:=8 * szL es) (fun f t s=>(blk_gr (fun f p t s=>lwL_gr E ts f p t s) f t s).mono (by omega) (by omega)) (fun f t s=>(blk_gr (fun f p t s=>lwL_gr E es f p t s) f t s).mono (by omega) (by omega)) f t s).mono (by omega) (by omega)
theorem lwL_gr (E:Lv):∀ (l:List Nd) (f p t:Int) (s:Lw),Gw (8 * szL l - l.length) (8 * szL l - l.length) s (lwL E l f p t s)
 | [],f,p,t,s=>by rw [lwL];exact (Gw.refl s).mono (by omega) (by omega)
 | x :: r,f,p,t,s=>by
   have hs:szL (x :: r)=szN x+szL r:=by rw [szL]
   have h1:=len_sz r
   have h2:=args_sz x
   have h3:(x :: r).length=r.length+1:=rfl
   rw [lwL]
   exact ((lwN_gr E x _ _ _).trans (lwL_gr E r _ _ _ _)).mono (by omega) (by omega)
end
structure Gf where
 vs:List ByteArray
 tmp:Int
 ar:List Nd
 pts:Int
 ext:Int
 es:List Ed
def amg (i n:Int):Bool:=decide (0≤i) && decide (i < n)
theorem amg_true {i n:Int} (h:amg i n=true):0≤i∧i < n:=by simpa [amg] using h
def kDst (k:Int):Bool:=decide (2≤k∧k≤10)
def kArr (k:Int):Bool:=decide (k=10 ∨ k=11)
def kOp (k:Int):Bool:=decide (k=12)
def kA (k:Int):Bool:=decide ((2≤k∧k≤8) ∨ (10≤k∧k≤12))
def kB (k:Int):Bool:=decide ((4≤k∧k≤8) ∨ k=11 ∨ k=12)
def plc (has:Bool) (i n:Int):Bool:=if has then amg i n else i == -1
def cmps (has:Bool) (op:Int):Bool:=if has then decide (1≤op) && decide (op≤6) else op == 0
def opd (has:Bool) (v m n:Int):Bool:=if has then (v == -1) || (amg v n && m == 0) else (v == -1) && (m == 0)
def kdR (k:Int):Bool:=decide (1≤k∧k≤14)
def endR (pts ext:Int) (e:Ed):Bool:=amg e.fr pts && amg e.dt pts && e.fr != ext
def namR (nv na:Int) (e:Ed):Bool:=plc (kDst e.kd) e.dst nv && plc (kArr e.kd) e.arr na && cmps (kOp e.kd) e.op
def edR (nv na pts ext:Int) (e:Ed):Bool:=kdR e.kd && (endR pts ext e && namR nv na e && opd (kA e.kd) e.av e.an nv && opd (kB e.kd) e.bv e.bn nv)
def noE:Ed:=edgeE 0 0 0
def outT (es:List Ed) (k p:Nat):List Nat:=(List.range k).filter fun j=>(es.getD j noE).fr == (p:Int)
theorem outT_succ (es:List Ed) (k p:Nat):outT es (k+1) p=outT es k p ++ (if (es.getD k noE).fr == (p:Int) then [k] else []):=by
 unfold outT
 rw [List.range_succ,List.filter_append]
 congr 1
 simp only [List.filter_cons,List.filter_nil]
theorem outT_lt {es:List Ed} {k p j:Nat} (h:j ∈ outT es k p):j < k∧(es.getD j noE).fr=(p:Int):=by
 unfold outT at h
 rw [List.mem_filter,List.mem_range] at h
 exact ⟨h.1,by simpa using h.2⟩
theorem outT_len (es:List Ed) (k p:Nat):(outT es k p).length≤k:=by
 unfold outT
 exact Nat.le_trans (List.length_filter_le _ _) (by simp)
def outL (es:List Ed) (p:Nat):List Nat:=outT es es.length p
def ctr (e f:Ed):Bool:=e.kd == 12 && f.kd == 12 && (e.av == f.av && e.an == f.an) && (e.bv == f.bv && e.bn == f.bn) && f.op == notI e.op
def tog (es:List Ed):List Nat→Bool
 | []=>true
 | [a]=>(es.getD a noE).kd != 12
 | [a,b]=>ctr (es.getD a noE) (es.getD b noE)
 | _ :: _ :: _ :: _=>false
def szD (d:Nd):Bool:=decide (1≤dSz d) && decide (dSz d≤1024)
def Gf.nv (g:Gf):Int:=(g.vs.length:Int)+g.tmp
def Gf.n (g:Gf):Nat:=g.pts.toNat
def sizedG (g:Gf):Bool:=decide (g.ar.length≤16) && g.ar.all szD
def rightG (g:Gf):Bool:=g.es.all (edR g.nv (g.ar.length:Int) g.pts g.ext)
def forkG (g:Gf):Bool:=(List.range g.n).all fun p=>tog g.es (outL g.es p)
def frm (g:Gf):Bool:=sizedG g && amg g.ext g.pts && rightG g && forkG g
def valO (s:Rn) (v n:Int):Int:=if v < 0 then n else s.vars.getD v.toNat 0
def edVa (e:Ed) (s:Rn):Int:=valO s e.av e.an
def edVb (e:Ed) (s:Rn):Int:=valO s e.bv e.bn
def hldE (e:Ed) (s:Rn):Bool:=e.kd != 12 || cmpB e.op (edVa e s) (edVb e s)
def takG (es:List Ed) (l:List Nat) (s:Rn):Option Nat:=l.find? fun j=>hldE (es.getD j noE) s
def putS (s:Rn) (d v:Int):Rn:={ s with vars:=s.vars.set d.toNat v }
def arrO (s:Rn) (a:Int):List Int:=s.arrs.getD a.toNat []
def inS (s:Rn):Rn:={ noteR true (s.left.headD 0) false s with left:=s.left.tail }
def doE (e:Ed) (s:Rn):Int × Rn :=
 if e.kd=2 then (0,putS s e.dst (edVa e s))
 else if 3≤e.kd∧e.kd≤8 then (if (numK (e.kd+2) (edVa e s) (edVb e s)).2=0 then (0,putS s e.dst (numK (e.kd+2) (edVa e s) (edVb e s)).1) else ((numK (e.kd+2) (edVa e s) (edVb e s)).2,s))
 else if e.kd=9 then (0,putS (inS s) e.dst (s.left.headD 0))
 else if e.kd=10 then (if edVa e s < 0 ∨ ((arrO s e.arr).length:Int)≤edVa e s then (3,s) else (0,putS s e.dst ((arrO s e.arr).getD (edVa e s).toNat 0)))
 else if e.kd=11 then (if edVa e s < 0 ∨ ((arrO s e.arr).length:Int)≤edVa e s then (3,s) else (0,{ s with arrs:=s.arrs.set e.arr.toNat ((arrO s e.arr).set (edVa e s).toNat (edVb e s)) }))
 else if e.kd=13 then (0,noteR false 0 true s)
 else if e.kd=14 then (4,noteR false 0 false s)
 else (0,s)
def tick (s:Rn):Rn:={ s with steps:=s.steps+1 }
abbrev Gx:=Int × Int × Int × Rn
def stepG (most:Nat) (es:List Ed) (p:Int) (s:Rn):(Int × Rn) ⊕ Gx:=match takG es (outL es p.toNat) s with
 | none=>.inr (2,0,p,s)
 | some j=>if (es.getD j noE).kd=9∧s.left=[] then .inr (2,0,p,s) else if s.steps=most then .inr (1,0,p,s)
   else if (doE (es.getD j noE) (tick s)).1=0 then .inl ((es.getD j noE).dt,(doE (es.getD j noE) (tick s)).2) else .inr (3,(doE (es.getD j noE) (tick s)).1,p,(doE (es.getD j noE) (tick s)).2)
def runG (most:Nat) (es:List Ed):Nat→Int→Rn→Gx
 | 0,p,s=>(1,0,p,s)
 | n+1,p,s=>match stepG most es p s with
   | .inl (q,s)=>runG most es n q s
   | .inr r=>r
def finG (most:Nat) (es:List Ed) (p:Int) (s:Rn):Gx:=runG most es (most+1 - s.steps) p s
theorem do_steps (e:Ed) (s:Rn):(doE e s).2.steps=s.steps:=by
 unfold doE
 split
 · rfl
 split
 · split <;> rfl
 split
 · rfl
 split
 · split <;> rfl
 split
 · split <;> rfl
 split
 · rfl
 split
 · rfl
 · rfl
theorem step_inl {most:Nat} {es:List Ed} {p q:Int} {s s':Rn} (h:stepG most es p s=.inl (q,s')):s'.steps=s.steps+1∧s.steps ≠ most:=by
 unfold stepG at h
 split at h
 · cases h
 · split at h
   · cases h
   · split at h
     · cases h
     · rename_i hm
       split at h
       · obtain ⟨-,rfl⟩:=Prod.mk.inj (Sum.inl.inj h)
         exact ⟨do_steps _ _,hm⟩
       · cases h
theorem fin_inl {most:Nat} {es:List Ed} {p q:Int} {s s':Rn} (hs:s.steps≤most) (h:stepG most es p s=.inl (q,s')):finG most es p s=finG most es q s':=by
 obtain ⟨h1,h2⟩:=step_inl h
 unfold finG
 rw [show most+1 - s.steps=(most+1 - s'.steps)+1 by omega,runG,h]
theorem fin_inr {most:Nat} {es:List Ed} {p:Int} {s:Rn} {r:Gx} (hs:s.steps≤most) (h:stepG most es p s=.inr r):finG most es p s=r:=by
 unfold finG
 rw [show most+1 - s.steps=(most - s.steps)+1 by omega,runG,h]
def outE (es:List Ed) (p:Int):List Ed:=es.filter fun e=>e.fr == p
theorem map_range (es:List Ed):(List.range es.length).map (fun j=>es.getD j noE)=es:=by
 apply List.ext_getElem (by simp)
 intro i h1 h2
 simp only [List.getElem_map,List.getElem_range]
 rw [List.getD_eq_getElem?_getD,List.getElem?_eq_getElem h2,Option.getD_some]
theorem outL_map (es:List Ed) (p:Nat):(outL es p).map (fun j=>es.getD j noE)=outE es p:=by
 unfold outL outT outE
 conv=>rhs;rw [← map_range es]
 rw [List.filter_map]
 rfl
theorem tak_none {es:List Ed} {p:Nat} {s:Rn} (h:outE es p=[]):takG es (outL es p) s=none:=by
 have h2:=outL_map es p
 rw [h] at h2
 rw [List.map_eq_nil_iff.1 h2]
 rfl
theorem tak_one {es:List Ed} {p:Nat} {e:Ed} {s:Rn} (h:outE es p=[e]) (hk:e.kd ≠ 12):∃ j,takG es (outL es p) s=some j∧es.getD j noE=e:=by
 have h2:=outL_map es p
 rw [h] at h2
 obtain ⟨j,l,h3,h4,h5⟩:=List.map_eq_cons_iff.1 h2
 obtain rfl:=List.map_eq_nil_iff.1 h5
 refine ⟨j,?_,h4⟩
 rw [h3]
 unfold takG
 rw [List.find?_cons]
 have:hldE (es.getD j noE) s=true:=by rw [h4];simp [hldE,hk]
 rw [this]
theorem tak_two {es:List Ed} {p:Nat} {e f:Ed} {s:Rn} (h:outE es p=[e,f]):∃ o:Option Nat,takG es (outL es p) s=o∧o.map (fun j=>es.getD j noE)=if hldE e s then some e else if hldE f s then some f else none:=by
 have h2:=outL_map es p
 rw [h] at h2
 obtain ⟨i,l,h3,h4,h5⟩:=List.map_eq_cons_iff.1 h2
 obtain ⟨j,m,h6,h7,h8⟩:=List.map_eq_cons_iff.1 h5
 obtain rfl:=List.map_eq_nil_iff.1 h8
 rw [h3,h6]
 unfold takG
 rw [List.find?_cons,List.find?_cons,h4,h7]
 cases he:hldE e s with
 | true=>exact ⟨_,rfl,by simp only [Option.map_some,h4,if_true]⟩
 | false =>
   cases hf2:hldE f s with
   | true=>exact ⟨_,rfl,by simp only [Option.map_some,h7,if_true,Bool.false_eq_true,if_false]⟩
   | false=>exact ⟨_,rfl,by simp⟩
theorem not_cmp {op:Int} (h:1≤op∧op≤6) (a b:Int):cmpB (notI op) a b = !cmpB op a b:=by
 have hc:op=1 ∨ op=2 ∨ op=3 ∨ op=4 ∨ op=5 ∨ op=6:=by omega
 rcases hc with rfl | rfl | rfl | rfl | rfl | rfl <;> simp [cmpB,notI] <;> first | omega | (rw [Bool.eq_iff_iff];simp <;> omega) | rfl
theorem one_step {most:Nat} {es:List Ed} {e:Ed} {s:Rn} (h:outE es e.fr=[e]) (hk:e.kd ≠ 12) (hp:0≤e.fr) (hs:s.steps≤most) :
    finG most es e.fr s=if e.kd=9∧s.left=[] then (2,0,e.fr,s) else if s.steps=most then (1,0,e.fr,s) else if (doE e (tick s)).1=0 then finG most es e.dt (doE e (tick s)).2 else (3,(doE e (tick s)).1,e.fr,(doE e (tick s)).2):=by
 obtain ⟨j,h1,h2⟩:=tak_one (p:=e.fr.toNat) (s:=s) (by rw [Int.toNat_of_nonneg hp];exact h) hk
 have hst:stepG most es e.fr s=if e.kd=9∧s.left=[] then .inr (2,0,e.fr,s) else if s.steps=most then .inr (1,0,e.fr,s) else if (doE e (tick s)).1=0 then .inl (e.dt,(doE e (tick s)).2) else .inr (3,(doE e (tick s)).1,e.fr,(doE e (tick s)).2):=by
  unfold stepG
  rw [h1]
  simp only [h2]
 split at hst
 · rename_i c
   rw [if_pos c]
   exact fin_inr hs hst
 · rename_i c
   rw [if_neg c]
   split at hst
   · rename_i c
     rw [if_pos c]
     exact fin_inr hs hst
   · rename_i c
     rw [if_neg c]
     split at hst
     · rename_i c
       rw [if_pos c]
       exact fin_inl hs hst
     · rename_i c
       rw [if_neg c]
       exact fin_inr hs hst
theorem two_step {most:Nat} {es:List Ed} {e f:Ed} {s:Rn} (h:outE es e.fr=[e,f]) (hb:e.kd=12∧f.kd=12∧f.av=e.av∧f.an=e.an∧f.bv=e.bv∧f.bn=e.bn∧f.op=notI e.op) (ho:1≤e.op∧e.op≤6) (hp:0≤e.fr) (hs:s.steps≤most) :
    finG most es e.fr s=if s.steps=most then (1,0,e.fr,s) else finG most es (if cmpB e.op (edVa e s) (edVb e s) then e.dt else f.dt) (tick s):=by
 obtain ⟨b1,b2,b3,b4,b5,b6,b7⟩:=hb
 obtain ⟨o,h1,h2⟩:=tak_two (p:=e.fr.toNat) (s:=s) (by rw [Int.toNat_of_nonneg hp];exact h)
 have e1:hldE e s=cmpB e.op (edVa e s) (edVb e s):=by simp [hldE,b1]
 have e2:hldE f s = !cmpB e.op (edVa e s) (edVb e s):=by
  unfold hldE
  rw [b2,b7,not_cmp ho,show edVa f s=edVa e s by unfold edVa;rw [b3,b4],show edVb f s=edVb e s by unfold edVb;rw [b5,b6]]
  rfl
 rw [e1,e2] at h2
 have hd:∀ (x:Ed),x.kd=12→doE x (tick s)=(0,tick s):=fun x hx=>by
  unfold doE
  rw [hx]
  rfl
 have key:∀ (x:Ed),x.kd=12→o.map (fun j=>es.getD j noE)=some x→finG most es e.fr s=if s.steps=most then (1,0,e.fr,s) else finG most es x.dt (tick s):=fun x hx hm=>by
  obtain ⟨j,rfl,hj⟩:=Option.map_eq_some_iff.1 hm
  have hst:stepG most es e.fr s=if s.steps=most then .inr (1,0,e.fr,s) else .inl (x.dt,tick s):=by
   unfold stepG
   rw [h1]
   simp only [hj,hd x hx,if_true]
   rw [if_neg (by rw [hx];rintro ⟨h,-⟩;cases h)]
  split at hst
  · rename_i c
    rw [if_pos c]
    exact fin_inr hs hst
  · rename_i c
    rw [if_neg c]
    exact fin_inl hs hst
 cases hc:cmpB e.op (edVa e s) (edVb e s) with
 | true =>
   rw [hc] at h2
   exact key e b1 h2
 | false =>
   rw [hc] at h2
   exact key f b2 h2
theorem none_step {most:Nat} {es:List Ed} {p:Int} {s:Rn} (h:outE es p=[]) (hp:0≤p) (hs:s.steps≤most):finG most es p s=(2,0,p,s):=by
 refine fin_inr hs ?_
 unfold stepG
 rw [tak_none (by rw [Int.toNat_of_nonneg hp];exact h)]
def fmK (ty:Ty) (k n:Int) (xl cl:Nat):Prop:=match ty with
 | .E=>1≤k∧k≤10∧(k=1→0≤n)∧(k≤3→xl=0)∧(k=4 ∨ k=5→xl=1)∧(6≤k→xl=2)
 | .C=>1≤k∧k≤6∧(k=3→xl=2)∧(k=4→cl=1)∧(5≤k→cl=2)
 | .S=>1≤k∧k≤7∧(k=1→xl=1)∧(k=2→xl=2)∧(3≤k∧k≤6→cl=1)
 | .D=>True
mutual
def fmN:Nd→Prop
 | .mk ty k n _ xs cs ts es=>fmK ty k n xs.length cs.length∧fmL .E xs∧fmL .C cs∧fmL .S ts∧fmL .S es
def fmL:Ty→List Nd→Prop
 | _,[]=>True
 | ty,x :: r=>x.ty=ty∧fmN x∧fmL ty r
end
theorem fmL_at:∀ {ty:Ty} {l:List Nd} (_:fmL ty l) (i:Nat) (hi:i < l.length),(l[i]).ty=ty∧fmN l[i]
 | _,x :: r,h,0,_=>by unfold fmL at h;exact ⟨h.1,h.2.1⟩
 | _,x :: r,h,i+1,hi=>by
   unfold fmL at h
   have:=fmL_at h.2.2 i (by simpa using hi)
   simpa using this
mutual
theorem fmN_of:∀ (x:Nd),fitN x→(∀ y ∈ allN x,wellN y=true)→fmN x
 | .mk ty k n nm xs cs ts es,hf,hall=>by
   unfold fitN at hf
   obtain ⟨hfit,hx,hc,ht,he⟩:=hf
   cases ty with
   | E =>
     simp only [fits] at hfit
     obtain ⟨rfl,rfl,rfl⟩:=hfit
     have e:allN (.mk .E k n nm xs [] [] [])=.mk .E k n nm xs [] [] [] :: allL xs:=by unfold allN;rfl
     rw [e] at hall
     have h1:wellE k n nm xs.length=true:=hall _ (List.mem_cons_self ..)
     unfold wellE kindE ownE argsE at h1
     simp only [Bool.and_eq_true,Bool.or_eq_true,decide_eq_true_eq,beq_iff_eq] at h1
     obtain ⟨⟨hk,-⟩,hlen,hn⟩:=h1
     unfold fmN
     refine ⟨⟨hk.1,hk.2,fun h=>by omega,fun h=>?_,fun h=>?_,fun h=>?_⟩,fmL_of .E xs hx (fun y hy=>hall y (List.mem_cons_of_mem _ hy)),by unfold fmL;trivial,by unfold fmL;trivial,by unfold fmL;trivial⟩
     · rw [if_neg (by omega),if_neg (by omega)] at hlen;omega
     · rw [if_pos h] at hlen;omega
     · rw [if_neg (by omega),if_pos ⟨h,hk.2⟩] at hlen;omega
   | C =>
     simp only [fits] at hfit
     obtain ⟨-,rfl,rfl⟩:=hfit
     have e:allN (.mk .C k n nm xs cs [] [])=.mk .C k n nm xs cs [] [] :: (allL xs ++ allL cs):=by unfold allN;rfl
     rw [e] at hall
     have h1:wellC k n xs.length cs.length=true:=hall _ (List.mem_cons_self ..)
     unfold wellC kindC ownC exprsC partsC at h1
     simp only [Bool.and_eq_true,decide_eq_true_eq,beq_iff_eq] at h1
     obtain ⟨hk,-,hxl,hcl⟩:=h1
     unfold fmN
     refine ⟨⟨hk.1,hk.2,fun h=>?_,fun h=>?_,fun h=>?_⟩,fmL_of .E xs hx (fun y hy=>hall y (List.mem_cons_of_mem _ (List.mem_append_left _ hy))),fmL_of .C cs hc (fun y hy=>hall y (List.mem_cons_of_mem _ (List.mem_append_right _ hy))),by unfold fmL;trivial,by unfold fmL;trivial⟩
     · rw [if_pos h] at hxl;omega
     · rw [if_pos h] at hcl;omega
     · rw [if_neg (by omega),if_pos (by omega)] at hcl;omega
   | S =>
     have e:allN (.mk .S k n nm xs cs ts es)=.mk .S k n nm xs cs ts es :: (allL cs ++ (allL xs ++ (allL ts ++ allL es))):=by unfold allN;rfl
     rw [e] at hall
     have h1:wellS k nm xs.length cs.length ts.length es.length=true:=hall _ (List.mem_cons_self ..)
     unfold wellS kindS ownS exprsS condsS at h1
     simp only [Bool.and_eq_true,Bool.or_eq_true,decide_eq_true_eq,beq_iff_eq] at h1
     obtain ⟨⟨hk,-⟩,hxl,hcl,-⟩:=h1
     unfold fmN
     refine ⟨⟨hk.1,hk.2,fun h=>?_,fun h=>?_,fun h=>?_⟩,fmL_of .E xs hx (fun y hy=>hall y (List.mem_cons_of_mem _ (List.mem_append_right _ (List.mem_append_left _ hy)))),fmL_of .C cs hc (fun y hy=>hall y (List.mem_cons_of_mem _ (List.mem_append_left _ hy))),fmL_of .S ts ht (fun y hy=>hall y (List.mem_cons_of_mem _ (List.mem_append_right _ (List.mem_append_right _ (List.mem_append_left _ hy))))),fmL_of .S es he (fun y hy=>hall y (List.mem_cons_of_mem _ (List.mem_append_right _ (List.mem_append_right _ (List.mem_append_right _ hy)))))⟩
     · rw [if_pos h] at hxl;omega
     · rw [if_neg (by omega),if_pos h] at hxl;omega
     · rw [if_pos h] at hcl;omega
   | D =>
     simp only [fits] at hfit
     obtain ⟨-,rfl,rfl,rfl,rfl⟩:=hfit
     unfold fmN
     refine ⟨trivial,?_,?_,?_,?_⟩ <;> (unfold fmL;trivial)
theorem fmL_of:∀ (ty:Ty) (l:List Nd),fitL ty l→(∀ y ∈ allL l,wellN y=true)→fmL ty l
 | ty,[],_,_=>by unfold fmL;trivial
 | ty,x :: r,hf,hall=>by
   unfold fitL at hf
   have e:allL (x :: r)=allN x ++ allL r:=by rw [allL]
   rw [e] at hall
   unfold fmL
   exact ⟨hf.1,fmN_of x hf.2.1 (fun y hy=>hall y (List.mem_append_left _ hy)),fmL_of ty r hf.2.2 (fun y hy=>hall y (List.mem_append_right _ hy))⟩
end
mutual
theorem szN_all:∀ (x:Nd),fitN x→x.ty ≠ .D→szN x=(allN x).length
 | .mk ty k n nm xs cs ts es,hf,hD=>by
   unfold fitN at hf
   obtain ⟨hfit,hx,hc,ht,he⟩:=hf
   have h1:=szL_all .E xs hx (by decide)
   have h2:=szL_all .C cs hc (by decide)
   have h3:=szL_all .S ts ht (by decide)
   have h4:=szL_all .S es he (by decide)
   rw [szN,h1,h2,h3,h4]
   cases ty with
   | E =>
     simp only [fits] at hfit
     obtain ⟨rfl,rfl,rfl⟩:=hfit
     rw [allN]
     simp [allL]
     omega
   | C =>
     simp only [fits] at hfit
     obtain ⟨-,rfl,rfl⟩:=hfit
     rw [allN]
     simp [allL]
     omega
   | S =>
     rw [allN]
     simp
     omega
   | D=>exact absurd rfl hD
theorem szL_all:∀ (ty:Ty) (l:List Nd),fitL ty l→ty ≠ .D→szL l=(allL l).length
 | ty,[],_,_=>by rw [szL,allL];rfl
 | ty,x :: r,hf,hD=>by
   unfold fitL at hf
   rw [szL,allL,List.length_append,szN_all x hf.2.1 (by rw [hf.1];exact hD),szL_all ty r hf.2.2 hD]
end
theorem prog_fm {ds ss:List Nd} (hs:fitL .S ss) (hz:(wellP ds ss).2=0):fmL .S ss∧szL ss≤4096:=by
 obtain ⟨h1,h2,h3⟩:=wellP_ok hz
 refine ⟨fmL_of .S ss hs (fun y hy=>prog_all h1 y (List.mem_append_right _ hy)),?_⟩
 have h:=(progT_ok ds ss).1
 rw [progT_list (fault_lim h1),allL_app,List.length_append] at h
 rw [szL_all .S ss hs (by decide)]
 omega
end Go.Proofs.YtmohmggnjldddaaGreatDoor
