/-
  Plain: where names lie, in a map in memory; each declaration's name has its place.
-/
import Derived.Test.YtmohmggnjldddaaGreatDoorQTwalk
import Derived.Test.YtmohmggnjldddaaGreatDoorQWellA
import Derived.Laws.MakeOwn
import Derived.Laws.OwnMore
import Derived.WalkLawsBesides
namespace Go.Proofs.YtmohmggnjldddaaGreatDoor
open Go Go.RowKit
structure Rn where
 vars:List Int
 arrs:List (List Int)
 evs:List (Bool × Int × Bool)
 steps:Nat
 left:List Int
inductive Res (α:Type) where
 | go (a:α) (s:Rn)
 | stop (st wr:Int) (s:Rn)
def Res.bind {α β:Type} (r:Res α) (f:α→Rn→Res β):Res β:=match r with
 | .go a s=>f a s
 | .stop x y s=>.stop x y s
def Res.at {α:Type}:Res α→Rn
 | .go _ s=>s
 | .stop _ _ s=>s
structure Rv where
 pl:ByteArray→Nat
 most:Nat
def stepR (E:Rv) (s:Rn):Res Unit:=if s.steps=E.most then .stop 1 0 s else .go () { s with steps:=s.steps+1 }
def noteR (b:Bool) (n:Int) (h:Bool) (s:Rn):Rn:={ s with evs:=s.evs ++ [(b,n,h)] }
def inputR (E:Rv) (s:Rn):Res Int:=match s.left with
 | []=>.stop 2 0 s
 | x :: r=>(stepR E s).bind fun _ s=>.go x (noteR true x false { s with left:=r })
def numT (x:Int):Int × Int:=if fitsI x then (x,0) else (0,1)
def numK (k a b:Int):Int × Int :=
 if k=5 then numT (-a) else if k=6 then numT (a+b) else if k=7 then numT (a - b) else if k=8 then numT (a * b)
 else if k=9 then (if b=0 then (0,2) else numT (a.tdiv b)) else (if b=0 then (0,2) else if a = -9223372036854775808∧b = -1 then (0,1) else (a.tmod b,0))
def doK (E:Rv) (k a b:Int) (s:Rn):Res Int:=(stepR E s).bind fun _ s=>if (numK k a b).2=0 then .go (numK k a b).1 s else .stop 3 (numK k a b).2 s
def itemR (E:Rv) (nm:ByteArray) (i:Int) (s:Rn):Res Nat:=(stepR E s).bind fun _ s=>if i < 0 ∨ ((s.arrs.getD (E.pl nm) []).length:Int)≤i then .stop 3 3 s else .go i.toNat s
def kindN:Nd→Int | .mk _ k _ _ _ _ _ _=>k
def numN:Nd→Int | .mk _ _ n _ _ _ _ _=>n
def conK (k n:Int):List Nd→Option Int
 | []=>if k=1 then some n else none
 | x :: _=>if k=1 then some n else if k=5∧kindN x=1 then some (-(numN x)) else none
def conN:Nd→Option Int | .mk _ k n _ xs _ _ _=>conK k n xs
def barN (x:Nd):Bool:=(conN x).isSome || decide (kindN x=2)
def fnR (fs:List (Rn→Res Int)) (i:Nat):Rn→Res Int:=fs.getD i (fun s=>.go 0 s)
def hnR (hs:List (Rn→Res Bool)) (i:Nat):Rn→Res Bool:=hs.getD i (fun s=>.go false s)
def valK (E:Rv) (k:Int) (nm:ByteArray) (c:Option Int) (fs:List (Rn→Res Int)) (s:Rn):Res Int:=match c with
 | some n=>.go n s
 | none=>if k=2 then .go (s.vars.getD (E.pl nm) 0) s else if k=3 then inputR E s
   else if k=4 then (fnR fs 0 s).bind fun i s=>(itemR E nm i s).bind fun j s=>.go ((s.arrs.getD (E.pl nm) []).getD j 0) s
   else if k=5 then (fnR fs 0 s).bind fun a s=>doK E k a 0 s
   else (fnR fs 0 s).bind fun a s=>(fnR fs 1 s).bind fun b s=>doK E k a b s
mutual
def valN (E:Rv):Nd→Rn→Res Int
 | .mk _ k n nm xs _ _ _=>valK E k nm (conK k n xs) (valL E xs)
def valL (E:Rv):List Nd→List (Rn→Res Int)
 | []=>[]
 | x :: r=>valN E x :: valL E r
end
def hldK (E:Rv) (k n:Int) (fs:List (Rn→Res Int)) (hs:List (Rn→Res Bool)) (s:Rn):Res Bool :=
 if k=4 then (hnR hs 0 s).bind fun b s=>.go (!b) s
 else if k=5 then (hnR hs 0 s).bind fun b s=>if b then hnR hs 1 s else .go false s
 else if k=6 then (hnR hs 0 s).bind fun b s=>if b then .go true s else hnR hs 1 s
 else if k=3 then (fnR fs 0 s).bind fun a s=>(fnR fs 1 s).bind fun b s=>(stepR E s).bind fun _ s=>.go (cmpB n a b) s
 else (stepR E s).bind fun _ s=>.go (decide (k=1)) s
mutual
def hldN (E:Rv):Nd→Rn→Res Bool
 | .mk _ k n _ xs cs _ _=>hldK E k n (valL E xs) (hldL E cs)
def hldL (E:Rv):List Nd→List (Rn→Res Bool)
 | []=>[]
 | x :: r=>hldN E x :: hldL E r
end
def loopR (h:Rn→Res Bool) (b:Rn→Res Unit):Nat→Rn→Res Unit
 | 0,s=>.stop 1 0 s
 | n+1,s=>(h s).bind fun c s=>if c then (b s).bind fun _ s=>loopR h b n s else .go () s
def putV (E:Rv) (nm:ByteArray) (v:Int) (s:Rn):Rn:={ s with vars:=s.vars.set (E.pl nm) v }
def putA (E:Rv) (nm:ByteArray) (j:Nat) (v:Int) (s:Rn):Rn:={ s with arrs:=s.arrs.set (E.pl nm) ((s.arrs.getD (E.pl nm) []).set j v) }
def barL:List Nd→Bool
 | []=>false
 | x :: _=>barN x
def stK (E:Rv) (k:Int) (nm:ByteArray) (q:Bool) (fs:List (Rn→Res Int)) (hs:List (Rn→Res Bool)) (t e:Rn→Res Unit) (s:Rn):Res Unit :=
 if k=1 then (fnR fs 0 s).bind fun v s=>(if q then stepR E s else .go () s).bind fun _ s=>.go () (putV E nm v s)
 else if k=2 then (fnR fs 0 s).bind fun i s=>(fnR fs 1 s).bind fun v s=>(itemR E nm i s).bind fun j s=>.go () (putA E nm j v s)
 else if k=3 then (hnR hs 0 s).bind fun b s=>if b then t s else e s
 else if k=4 then loopR (hnR hs 0) t (E.most+1 - s.steps) s
 else if k=5 then (hnR hs 0 s).bind fun b s=>(stepR E s).bind fun _ s=>if b then .go () (noteR false 0 true s) else .stop 3 4 (noteR false 0 false s)
 else if k=6 then (hnR hs 0 s).bind fun b s=>if b then .go () s else .stop 2 0 s
 else if k=7 then stepR E s
 else .go () s
mutual
def stN (E:Rv):Nd→Rn→Res Unit
 | .mk _ k _ nm xs cs ts es=>stK E k nm (barL xs) (valL E xs) (hldL E cs) (stL E ts) (stL E es)
def stL (E:Rv):List Nd→Rn→Res Unit
 | []=>fun s=>.go () s
 | x :: r=>fun s=>(stN E x s).bind fun _ s=>stL E r s
end
theorem valL_at (E:Rv):∀ (l:List Nd) (i:Nat) (hi:i < l.length),fnR (valL E l) i=valN E l[i]
 | [],i,hi=>by simp at hi
 | x :: r,0,_=>by unfold valL fnR;rfl
 | x :: r,i+1,hi=>by
   have h:=valL_at E r i (by simpa using hi)
   unfold valL
   unfold fnR at h ⊢
   simpa using h
theorem hldL_at (E:Rv):∀ (l:List Nd) (i:Nat) (hi:i < l.length),hnR (hldL E l) i=hldN E l[i]
 | [],i,hi=>by simp at hi
 | x :: r,0,_=>by unfold hldL hnR;rfl
 | x :: r,i+1,hi=>by
   have h:=hldL_at E r i (by simpa using hi)
   unfold hldL
   unfold hnR at h ⊢
   simpa using h
def Up {α:Type} (s:Rn) (r:Res α):Prop:=s.steps≤r.at.steps
theorem Up.bind {α β:Type} {s:Rn} {r:Res α} {f:α→Rn→Res β} (h:Up s r) (hf:∀ a s,Up s (f a s)):Up s (r.bind f):=by
 cases r with
 | go a s'=>exact Nat.le_trans h (hf a s')
 | stop x y s'=>exact h
theorem up_go {α:Type} (a:α) (s s':Rn) (h:s'.steps=s.steps):Up s (.go a s'):=Nat.le_of_eq h.symm
theorem up_stop {α:Type} (x y:Int) (s s':Rn) (h:s'.steps=s.steps):Up s (.stop x y s':Res α):=Nat.le_of_eq h.symm
theorem up_ite {α:Type} {s:Rn} {p:Prop} [Decidable p] {a b:Res α} (ha:Up s a) (hb:Up s b):Up s (if p then a else b):=by split <;> assumption
theorem step_up (E:Rv) (s:Rn):Up s (stepR E s):=by
 unfold stepR
 split
 · exact Nat.le_refl _
 · exact Nat.le_succ _
theorem input_up (E:Rv) (s:Rn):Up s (inputR E s):=by
 unfold inputR
 split
 · exact Nat.le_refl _
 · exact (step_up E s).bind fun _ s=>up_go _ _ _ rfl
theorem do_up (E:Rv) (k a b:Int) (s:Rn):Up s (doK E k a b s):=(step_up E s).bind fun _ _=>up_ite (up_go _ _ _ rfl) (up_stop _ _ _ _ rfl)
theorem item_up (E:Rv) (nm:ByteArray) (i:Int) (s:Rn):Up s (itemR E nm i s):=(step_up E s).bind fun _ _=>up_ite (up_stop _ _ _ _ rfl) (up_go _ _ _ rfl)
theorem fn_up {fs:List (Rn→Res Int)} (h:∀ f ∈ fs,∀ s,Up s (f s)) (i:Nat) (s:Rn):Up s (fnR fs i s):=by
 unfold fnR
 rw [List.getD_eq_getElem?_getD]
 cases hi:fs[i]? with
 | none=>exact Nat.le_refl _
 | some f=>exact h f (List.mem_of_getElem? hi) s
theorem hn_up {fs:List (Rn→Res Bool)} (h:∀ f ∈ fs,∀ s,Up s (f s)) (i:Nat) (s:Rn):Up s (hnR fs i s):=by
 unfold hnR
 rw [List.getD_eq_getElem?_getD]
 cases hi:fs[i]? with
 | none=>exact Nat.le_refl _
 | some f=>exact h f (List.mem_of_getElem? hi) s
theorem valK_up (E:Rv) (k:Int) (nm:ByteArray) (c:Option Int) {fs:List (Rn→Res Int)} (h:∀ f ∈ fs,∀ s,Up s (f s)) (s:Rn):Up s (valK E k nm c fs s):=by
 unfold valK
 split
 · exact Nat.le_refl _
 · refine up_ite (Nat.le_refl _) (up_ite (input_up E s) (up_ite ?_ (up_ite ?_ ?_)))
   · exact (fn_up h 0 s).bind fun _ s=>(item_up E nm _ s).bind fun _ s=>Nat.le_refl _
   · exact (fn_up h 0 s).bind fun _ s=>do_up E _ _ _ s
   · exact (fn_up h 0 s).bind fun _ s=>(fn_up h 1 s).bind fun _ s=>do_up E _ _ _ s
mutual
theorem valN_up (E:Rv):∀ (x:Nd) (s:Rn),Up s (valN E x s)
 | .mk _ k n nm xs _ _ _,s=>by
   unfold valN
   exact valK_up E k nm _ (valL_up E xs) s
theorem valL_up (E:Rv):∀ (l:List Nd),∀ f ∈ valL E l,∀ s,Up s (f s)
 | [],f,h=>by unfold valL at h;cases h
 | x :: r,f,h=>by
   unfold valL at h
   rcases List.mem_cons.1 h with rfl | h
   · exact valN_up E x
   · exact valL_up E r f h
end
theorem hldK_up (E:Rv) (k n:Int) {fs:List (Rn→Res Int)} {hs:List (Rn→Res Bool)} (h:∀ f ∈ fs,∀ s,Up s (f s)) (hh:∀ f ∈ hs,∀ s,Up s (f s)) (s:Rn):Up s (hldK E k n fs hs s):=by
 unfold hldK
 refine up_ite ?_ (up_ite ?_ (up_ite ?_ (up_ite ?_ ?_)))
 · exact (hn_up hh 0 s).bind fun _ s=>Nat.le_refl _
 · exact (hn_up hh 0 s).bind fun _ s=>up_ite (hn_up hh 1 s) (Nat.le_refl _)
 · exact (hn_up hh 0 s).bind fun _ s=>up_ite (Nat.le_refl _) (hn_up hh 1 s)
 · exact (fn_up h 0 s).bind fun _ s=>(fn_up h 1 s).bind fun _ s=>(step_up E s).bind fun _ s=>Nat.le_refl _
 · exact (step_up E s).bind fun _ s=>Nat.le_refl _
mutual
theorem hldN_up (E:Rv):∀ (x:Nd) (s:Rn),Up s (hldN E x s)
 | .mk _ k n nm xs cs _ _,s=>by
   unfold hldN
   exact hldK_up E k n (valL_up E xs) (hldL_up E cs) s
theorem hldL_up (E:Rv):∀ (l:List Nd),∀ f ∈ hldL E l,∀ s,Up s (f s)
 | [],f,h=>by unfold hldL at h;cases h
 | x :: r,f,h=>by
   unfold hldL at h
   rcases List.mem_cons.1 h with rfl | h
   · exact hldN_up E x
   · exact hldL_up E r f h
end
theorem loop_up {h:Rn→Res Bool} {b:Rn→Res Unit} (hh:∀ s,Up s (h s)) (hb:∀ s,Up s (b s)):∀ (n:Nat) (s:Rn),Up s (loopR h b n s)
 | 0,_=>Nat.le_refl _
 | n+1,s=>(hh s).bind fun _ s=>up_ite ((hb s).bind fun _ s=>loop_up hh hb n s) (Nat.le_refl _)
theorem stK_up (E:Rv) (k:Int) (nm:ByteArray) (q:Bool) {fs:List (Rn→Res Int)} {hs:List (Rn→Res Bool)} {t e:Rn→Res Unit} (h:∀ f ∈ fs,∀ s,Up s (f s)) (hh:∀ f ∈ hs,∀ s,Up s (f s)) (ht:∀ s,Up s (t s)) (he:∀ s,Up s (e s)) (s:Rn):Up s (stK E k nm q fs hs t e s):=by
 unfold stK
 refine up_ite ?_ (up_ite ?_ (up_ite ?_ (up_ite ?_ (up_ite ?_ (up_ite ?_ (up_ite ?_ ?_))))))
 · exact (fn_up h 0 s).bind fun _ s=>(up_ite (step_up E s) (Nat.le_refl _)).bind fun _ s=>Nat.le_refl _
 · exact (fn_up h 0 s).bind fun _ s=>(fn_up h 1 s).bind fun _ s=>(item_up E nm _ s).bind fun _ s=>Nat.le_refl _
 · exact (hn_up hh 0 s).bind fun _ s=>up_ite (ht s) (he s)
 · exact loop_up (hn_up hh 0) ht _ s
 · exact (hn_up hh 0 s).bind fun _ s=>(step_up E s).bind fun _ s=>up_ite (Nat.le_refl _) (Nat.le_refl _)
 · exact (hn_up hh 0 s).bind fun _ s=>up_ite (Nat.le_refl _) (Nat.le_refl _)
 · exact step_up E s
 · exact Nat.le_refl _
mutual
theorem stN_up (E:Rv):∀ (x:Nd) (s:Rn),Up s (stN E x s)
 | .mk _ k n nm xs cs ts es,s=>by
   unfold stN
   exact stK_up E k nm _ (valL_up E xs) (hldL_up E cs) (stL_up E ts) (stL_up E es) s
theorem stL_up (E:Rv):∀ (l:List Nd) (s:Rn),Up s (stL E l s)
 | [],s=>by unfold stL;exact Nat.le_refl _
 | x :: r,s=>by
   unfold stL
   exact (stN_up E x s).bind fun _ s=>stL_up E r s
end
def More {α:Type} (s:Rn) (r:Res α):Prop:=∀ a s',r=.go a s'→s.steps < s'.steps
theorem More.bind {α β:Type} {s:Rn} {r:Res α} {f:α→Rn→Res β} (h:More s r) (hf:∀ a s,Up s (f a s)):More s (r.bind f):=by
 intro b s2 hb
 cases r with
 | go a s' =>
   have h1:=h a s' rfl
   have h2:=hf a s'
   unfold Up at h2
   change f a s'=_ at hb
   rw [hb] at h2
   exact Nat.lt_of_lt_of_le h1 h2
 | stop x y s'=>cases hb
theorem More.behind {α β:Type} {s:Rn} {r:Res α} {f:α→Rn→Res β} (h:Up s r) (hf:∀ a s,More s (f a s)):More s (r.bind f):=by
 intro b s2 hb
 cases r with
 | go a s'=>exact Nat.lt_of_le_of_lt h (hf a s' b s2 hb)
 | stop x y s'=>cases hb
theorem step_more (E:Rv) (s:Rn):More s (stepR E s):=by
 intro a s' h
 unfold stepR at h
 split at h
 · cases h
 · cases h;exact Nat.lt_succ_self _
def partsR (k:Int) (len:Nat):Prop:=(k=4→len=1)∧(5≤k→len=2)
mutual
def cndN:Nd→Prop
 | .mk _ k _ _ _ cs _ _=>k≤6∧partsR k cs.length∧cndL cs
def cndL:List Nd→Prop
 | []=>True
 | x :: r=>cndN x∧cndL r
end
mutual
theorem hldN_more (E:Rv):∀ (x:Nd) (s:Rn),cndN x→More s (hldN E x s)
 | .mk _ k n nm xs cs _ _,s,h=>by
   unfold cndN at h
   obtain ⟨hk6,⟨h4,h5⟩,hc⟩:=h
   unfold hldN hldK
   by_cases k4:k=4
   · rw [if_pos k4]
     exact (hldL_more E cs 0 s (by have:=h4 k4;omega) hc).bind fun _ s=>Nat.le_refl _
   rw [if_neg k4]
   by_cases k5:k=5
   · rw [if_pos k5]
     exact (hldL_more E cs 0 s (by have:=h5 (by omega);omega) hc).bind fun _ s=>up_ite (hn_up (hldL_up E cs) 1 s) (Nat.le_refl _)
   rw [if_neg k5]
   by_cases k6:k=6
   · rw [if_pos k6]
     exact (hldL_more E cs 0 s (by have:=h5 (by omega);omega) hc).bind fun _ s=>up_ite (Nat.le_refl _) (hn_up (hldL_up E cs) 1 s)
   rw [if_neg k6]
   split
   · exact More.behind (fn_up (valL_up E xs) 0 s) fun _ s=>More.behind (fn_up (valL_up E xs) 1 s) fun _ s=>(step_more E s).bind fun _ s=>Nat.le_refl _
   · exact (step_more E s).bind fun _ s=>Nat.le_refl _
theorem hldL_more (E:Rv):∀ (l:List Nd) (i:Nat) (s:Rn),i < l.length→cndL l→More s (hnR (hldL E l) i s)
 | [],i,s,hi,_=>by simp at hi
 | x :: r,0,s,_,h=>by
   unfold cndL at h
   have:=hldN_more E x s h.1
   unfold hldL hnR
   exact this
 | x :: r,i+1,s,hi,h=>by
   unfold cndL at h
   have:=hldL_more E r i s (by simpa using hi) h.2
   unfold hldL
   unfold hnR at this ⊢
   simpa using this
end
open Go Go.RowKit Go.Maps
def putP (D:DataW Unit) (x:ByteArray × Nat):DataW Unit:=D.put (keyS x.1) (.lit (.int .i64 (x.2:Int)))
def mapP (l:List (ByteArray × Nat)):DataW Unit:=l.foldl putP (.map [])
def lookP (l:List (ByteArray × Nat)) (s:ByteArray):Nat:=l.foldl (fun k x=>if x.1.toList == s.toList then x.2 else k) 0
theorem mapP_snoc (l:List (ByteArray × Nat)) (x:ByteArray × Nat):mapP (l ++ [x])=(mapP l).put (keyS x.1) (.lit (.int .i64 (x.2:Int))):=by unfold mapP;rw [List.foldl_append];rfl
theorem lookP_snoc (l:List (ByteArray × Nat)) (x:ByteArray × Nat) (s:ByteArray):lookP (l ++ [x]) s=if x.1.toList == s.toList then x.2 else lookP l s:=by unfold lookP;rw [List.foldl_append];rfl
theorem isMap_foldP:∀ (l:List (ByteArray × Nat)) (D:DataW Unit),IsMap D→IsMap (l.foldl putP D)
 | [],_,h=>h
 | _ :: r,_,h=>isMap_foldP r _ (isMap_put h _ _)
theorem isMap_mapP (l:List (ByteArray × Nat)):IsMap (mapP l):=isMap_foldP l _ ⟨[],rfl⟩
theorem mapP_at_rev:∀ (l:List (ByteArray × Nat)) (s:ByteArray),(mapP l.reverse).atKey (keyS s) (.lit (.int .i64 0))=.lit (.int .i64 (lookP l.reverse s:Int))
 | [],s=>rfl
 | x :: r,s=>by
   rw [List.reverse_cons,mapP_snoc,lookP_snoc]
   by_cases h:x.1.toList=s.toList
   · rw [if_pos (by simpa using h),keyS_eq h]
     exact atKey_put_same (isMap_mapP _) (show WideAt.IsKeyLit (keyS s) from True.intro) _ _
   · rw [if_neg (by simpa using h),atKey_put_other (keyS_ne h)]
     exact mapP_at_rev r s
theorem mapP_at (l:List (ByteArray × Nat)) (s:ByteArray):(mapP l).atKey (keyS s) (.lit (.int .i64 0))=.lit (.int .i64 (lookP l s:Int)):=by
 have h:=mapP_at_rev l.reverse s
 rwa [List.reverse_reverse] at h
theorem take_succ' {α:Type} {l:List α} {i:Nat} (hi:i < l.length):l.take (i+1)=l.take i ++ [l[i]]:=(List.take_append_getElem hi).symm
def zerosA (x:Nd):Nat:=(dSz x).toNat
def pairsV (VN:List ByteArray):List (ByteArray × Nat):=VN.zipIdx
def pairsA (AN:List Nd):List (ByteArray × Nat):=(AN.map dNm).zipIdx
theorem cellsD_at:∀ (l:List Nd) (i:Nat) (h:i < l.length),(cellsD l)[i * 2]?=some (.string (dNm l[i]))∧(cellsD l)[i * 2+1]?=some (.int .i64 (dSz l[i]))
 | [],i,h=>by simp at h
 | x :: r,0,_=>by simp [cellsD]
 | x :: r,i+1,h=>by
   have:=cellsD_at r i (by simpa using h)
   have e:cellsD (x :: r)=[.string (dNm x),.int .i64 (dSz x)] ++ cellsD r:=by simp [cellsD]
   rw [e,show (i+1) * 2=i * 2+2 by omega,show i * 2+2+1=(i * 2+1)+2 by omega]
   simpa using this
theorem pairsV_at (VN:List ByteArray) (i:Nat) (h:i < VN.length):(pairsV VN).take (i+1)=(pairsV VN).take i ++ [(VN[i],i)]:=by
 have hl:i < (pairsV VN).length:=by simpa [pairsV] using h
 rw [take_succ' hl]
 simp [pairsV]
theorem pairsA_at (AN:List Nd) (i:Nat) (h:i < AN.length):(pairsA AN).take (i+1)=(pairsA AN).take i ++ [(dNm AN[i],i)]:=by
 have hl:i < (pairsA AN).length:=by simpa [pairsA] using h
 rw [take_succ' hl]
 simp [pairsA]
theorem i64_nat (i:Nat) (hi:i≤1024):(Lit.int .i64 (i:Int)).wf=true:=by
 simp only [Lit.wf,Bool.and_eq_true,decide_eq_true_eq]
 have e1:IntKind.i64.min = -9223372036854775808:=by decide
 have e2:IntKind.i64.max=9223372036854775807:=by decide
 omega
theorem upd_any {w:World} {G n:Nat} {D:DataW Unit} (h:OwnM w G n D) (hn:n < maxLen) (nm:ByteArray) (hz:nm.size≤maxLen) (i:Nat) (hi:i≤1024):∃ w',(Instr.mapUpdate 66 (.map (some G)) (.string nm) (.int .i64 (i:Int))).run Tryz.prog w=.ok () w'∧OwnM w' G (n+1) (D.put (keyS nm) (.lit (.int .i64 (i:Int))))∧w.grownBy w' (some G) :=
 h.update law9 (by kernel_rfl:Tryz.prog.underlying 66=some (.map 9 3)) hn (WideMaps.keyOf_string_mk (by kernel_rfl) hz:keyOf Tryz.prog 9 (.string nm)=some (keyS nm)) (plainElem_int under_int (i64_nat i hi))
theorem grown_undrew {w w':World} {row:Option Nat} (h:w.drew.grownBy w' row):w.grownBy w' row:=⟨h.os,h.tape,h.output,h.size,h.block⟩
theorem lookP_rev:∀ (l:List (ByteArray × Nat)) (s:ByteArray),(∃ p ∈ l.reverse,p.1.toList=s.toList)→∃ p ∈ l.reverse,p.1.toList=s.toList∧lookP l.reverse s=p.2
 | [],s,h=>by obtain ⟨p,hp,_⟩:=h;cases hp
 | x :: r,s,h=>by
   rw [List.reverse_cons,lookP_snoc]
   by_cases hx:x.1.toList=s.toList
   · exact ⟨x,by simp,hx,by rw [if_pos (by simpa using hx)]⟩
   · obtain ⟨p,hp,hps⟩:=h
     rw [List.reverse_cons] at hp
     have hp2:p ∈ r.reverse:=by
      rcases List.mem_append.1 hp with h1 | h1
      · exact h1
      · rw [List.mem_singleton.1 h1] at hps;exact absurd hps hx
     obtain ⟨q,hq,hqs,hl⟩:=lookP_rev r s ⟨p,hp2,hps⟩
     exact ⟨q,List.mem_append_left _ hq,hqs,by rw [if_neg (by simpa using hx)];exact hl⟩
theorem lookP_some {l:List (ByteArray × Nat)} {s:ByteArray} (h:∃ p ∈ l,p.1.toList=s.toList):∃ p ∈ l,p.1.toList=s.toList∧lookP l s=p.2:=by
 have:=lookP_rev l.reverse s (by rw [List.reverse_reverse];exact h)
 rwa [List.reverse_reverse] at this
theorem mem_pairsV {VN:List ByteArray} {p:ByteArray × Nat} (h:p ∈ pairsV VN):p.2 < VN.length∧p.1 ∈ VN:=by
 unfold pairsV at h
 have h1:=List.mem_zipIdx h
 refine ⟨by omega,?_⟩
 rw [h1.2.2]
 exact List.getElem_mem _
theorem mem_pairsA {AN:List Nd} {p:ByteArray × Nat} (h:p ∈ pairsA AN):p.2 < AN.length∧∃ y ∈ AN,p.1=dNm y:=by
 unfold pairsA at h
 have h1:=List.mem_zipIdx h
 refine ⟨by have:=h1.2.1;simp at this;omega,?_⟩
 have h2:=h1.2.2
 have hm:p.1 ∈ AN.map dNm:=by rw [h2];exact List.getElem_mem _
 obtain ⟨y,hy,e⟩:=List.mem_map.1 hm
 exact ⟨y,hy,e.symm⟩
theorem of_mem_pairsV {VN:List ByteArray} {s:ByteArray} (h:s ∈ VN):∃ p ∈ pairsV VN,p.1=s:=by
 obtain ⟨i,hi,rfl⟩:=List.getElem_of_mem h
 refine ⟨(VN[i],i),?_,rfl⟩
 unfold pairsV
 rw [List.mem_zipIdx_iff_getElem?]
 simp [hi]
theorem of_mem_pairsA {AN:List Nd} {y:Nd} (h:y ∈ AN):∃ p ∈ pairsA AN,p.1=dNm y:=by
 have h1:dNm y ∈ AN.map dNm:=List.mem_map_of_mem h
 obtain ⟨i,hi,e⟩:=List.getElem_of_mem h1
 refine ⟨(dNm y,i),?_,rfl⟩
 unfold pairsA
 rw [List.mem_zipIdx_iff_getElem?]
 rw [List.getElem?_eq_getElem hi,e]
theorem lookL_rev:∀ (l:List Nd) (s:ByteArray),lookL l.reverse s ≠ 0→∃ x ∈ l.reverse,(dNm x).toList=s.toList∧kD (dSz x)=lookL l.reverse s
 | [],s,h=>absurd rfl h
 | x :: r,s,h=>by
   rw [List.reverse_cons,lookL_snoc] at h ⊢
   by_cases hx:(dNm x).toList=s.toList
   · exact ⟨x,by simp,hx,by rw [if_pos (by simpa using hx)]⟩
   · rw [if_neg (by simpa using hx)] at h ⊢
     obtain ⟨y,hy,h1,h2⟩:=lookL_rev r s h
     exact ⟨y,List.mem_append_left _ hy,h1,h2⟩
theorem lookL_some {l:List Nd} {s:ByteArray} (h:lookL l s ≠ 0):∃ x ∈ l,(dNm x).toList=s.toList∧kD (dSz x)=lookL l s:=by
 have:=lookL_rev l.reverse s (by rw [List.reverse_reverse];exact h)
 rwa [List.reverse_reverse] at this
theorem lookL_zero_rev:∀ (l:List Nd) (s:ByteArray),lookL l.reverse s=0→∀ x ∈ l.reverse,¬ (dNm x).toList=s.toList
 | [],s,_,x,hx=>by cases hx
 | y :: r,s,h,x,hx=>by
   rw [List.reverse_cons,lookL_snoc] at h
   rw [List.reverse_cons] at hx
   by_cases hy:(dNm y).toList=s.toList
   · rw [if_pos (by simpa using hy)] at h
     unfold kD at h
     split at h <;> cases h
   · rw [if_neg (by simpa using hy)] at h
     rcases List.mem_append.1 hx with h1 | h1
     · exact lookL_zero_rev r s h x h1
     · rw [List.mem_singleton.1 h1];exact hy
theorem lookL_zero {l:List Nd} {s:ByteArray} (h:lookL l s=0):∀ x ∈ l,¬ (dNm x).toList=s.toList:=by
 have:=lookL_zero_rev l.reverse s (by rw [List.reverse_reverse];exact h)
 rwa [List.reverse_reverse] at this
theorem declW_dF:∀ (p r:List Nd),(declW p r).2=0→∀ i (h:i < r.length),dF (p ++ r.take i) r[i]=0
 | p,[],_,i,h=>by simp at h
 | p,x :: r,hz,i,h=>by
   unfold declW at hz
   by_cases h0:dF p x ≠ 0
   · rw [if_pos h0] at hz
     exact absurd hz h0
   · rw [if_neg h0] at hz
     cases i with
     | zero =>
       simp only [List.take_zero,List.append_nil,List.getElem_cons_zero]
       exact Decidable.not_not.1 h0
     | succ i =>
       have:=declW_dF (p ++ [x]) r hz i (by simpa using h)
       simpa using this
theorem decl_once {ds:List Nd} (h:(declW [] ds).2=0) (i j:Nat) (hi:i < ds.length) (hj:j < ds.length) (he:(dNm ds[i]).toList=(dNm ds[j]).toList):i=j:=by
 have key:∀ a b (ha:a < ds.length) (hb:b < ds.length),a < b→¬ (dNm ds[a]).toList=(dNm ds[b]).toList:=by
  intro a b ha hb hab e
  have h1:=declW_dF [] ds h b hb
  rw [List.nil_append] at h1
  unfold dF at h1
  by_cases h2:lookL (ds.take b) (dNm ds[b])=0
  · exact lookL_zero h2 ds[a] (by rw [List.mem_take_iff_getElem];exact ⟨a,by omega,rfl⟩) e
  · rw [if_pos h2] at h1;cases h1
 rcases Nat.lt_trichotomy i j with h1 | h1 | h1
 · exact absurd he (key i j hi hj h1)
 · exact h1
 · exact absurd he.symm (key j i hj hi h1)
theorem decl_sz {ds:List Nd} (h:(declW [] ds).2=0):∀ x ∈ ds,dSz x≤1024:=by
 intro x hx
 obtain ⟨i,hi,rfl⟩:=List.getElem_of_mem hx
 have h1:=declW_dF [] ds h i hi
 unfold dF at h1
 split at h1
 · cases h1
 · split at h1
   · cases h1
   · omega
theorem varsL_mem {ds:List Nd} {s:ByteArray} (h:s ∈ varsL ds):∃ x ∈ ds,dSz x=0∧dNm x=s:=by
 unfold varsL at h
 obtain ⟨x,hx,e⟩:=List.mem_map.1 h
 have h1:=List.mem_filter.1 hx
 exact ⟨x,h1.1,by simpa using h1.2,e⟩
theorem mem_varsL {ds:List Nd} {x:Nd} (h:x ∈ ds) (hz:dSz x=0):dNm x ∈ varsL ds:=by
 unfold varsL
 exact List.mem_map.2 ⟨x,List.mem_filter.2 ⟨h,by simpa using hz⟩,rfl⟩
theorem arrsL_mem {ds:List Nd} {x:Nd} (h:x ∈ arrsL ds):x ∈ ds∧dSz x ≠ 0:=by
 have h1:=List.mem_filter.1 h
 exact ⟨h1.1,by simpa using h1.2⟩
theorem mem_arrsL {ds:List Nd} {x:Nd} (h:x ∈ ds) (hz:dSz x ≠ 0):x ∈ arrsL ds:=List.mem_filter.2 ⟨h,by simpa using hz⟩
theorem once_eq {ds:List Nd} (h:(declW [] ds).2=0) {x y:Nd} (hx:x ∈ ds) (hy:y ∈ ds) (he:(dNm x).toList=(dNm y).toList):x=y:=by
 obtain ⟨i,hi,rfl⟩:=List.getElem_of_mem hx
 obtain ⟨j,hj,rfl⟩:=List.getElem_of_mem hy
 have:=decl_once h i j hi hj he
 subst this
 rfl
def plW (ds:List Nd):ByteArray→Nat:=lookP (pairsV (varsL ds) ++ pairsA (arrsL ds))
theorem pl_var {ds:List Nd} (h:(declW [] ds).2=0) {s:ByteArray} (hs:lookL ds s=1):plW ds s < (varsL ds).length:=by
 obtain ⟨x,hx,he,hk⟩:=lookL_some (l:=ds) (s:=s) (by rw [hs];decide)
 rw [hs] at hk
 have hz:dSz x=0:=by
  unfold kD at hk
  split at hk
  · assumption
  · cases hk
 obtain ⟨p,hp,hpe⟩:=of_mem_pairsV (mem_varsL hx hz)
 obtain ⟨q,hq,hqs,hl⟩:=lookP_some (l:=pairsV (varsL ds) ++ pairsA (arrsL ds)) (s:=s) ⟨p,List.mem_append_left _ hp,by rw [hpe];exact he⟩
 unfold plW
 rw [hl]
 rcases List.mem_append.1 hq with h1 | h1
 · exact (mem_pairsV h1).1
 · exfalso
   obtain ⟨-,y,hy,e⟩:=mem_pairsA h1
   obtain ⟨hy1,hy2⟩:=arrsL_mem hy
   have:=once_eq h hx hy1 (by rw [he,← hqs,e])
   exact hy2 (by rw [← this];exact hz)
theorem pl_arr {ds:List Nd} (h:(declW [] ds).2=0) {s:ByteArray} (hs:lookL ds s=2):plW ds s < (arrsL ds).length:=by
 obtain ⟨x,hx,he,hk⟩:=lookL_some (l:=ds) (s:=s) (by rw [hs];decide)
 rw [hs] at hk
 have hz:dSz x ≠ 0:=by
  intro e
  unfold kD at hk
  rw [if_pos e] at hk
  cases hk
 obtain ⟨p,hp,hpe⟩:=of_mem_pairsA (mem_arrsL hx hz)
 obtain ⟨q,hq,hqs,hl⟩:=lookP_some (l:=pairsV (varsL ds) ++ pairsA (arrsL ds)) (s:=s) ⟨p,List.mem_append_right _ hp,by rw [hpe];exact he⟩
 unfold plW
 rw [hl]
 rcases List.mem_append.1 hq with h1 | h1
 · exfalso
   obtain ⟨y,hy1,hy2,e⟩:=varsL_mem (mem_pairsV h1).2
   have:=once_eq h hx hy1 (by rw [he,← hqs,e])
   exact hz (by rw [this];exact hy2)
 · exact (mem_pairsA h1).1
theorem cnt_le {ds:List Nd} (h:(declW [] ds).2=0) (k:Int):∀ i,i≤ds.length→(cntK (ds.take i) k:Int)≤mostK k
 | 0,_=>by
   rw [List.take_zero]
   unfold cntK mostK
   simp only [List.filter_nil,List.length_nil]
   split <;> decide
 | i+1,hi=>by
   have ih:=cnt_le h k i (by omega)
   have h1:=declW_dF [] ds h i (by omega)
   rw [List.nil_append] at h1
   rw [take_succ' (by omega:i < ds.length),cntK_snoc]
   by_cases hk:(kD (dSz ds[i]) == k)=true
   · rw [if_pos hk]
     have hk':kD (dSz ds[i])=k:=by simpa using hk
     unfold dF at h1
     rw [hk'] at h1
     split at h1
     · cases h1
     · split at h1
       · cases h1
       · split at h1
         · cases h1
         · push_cast
           omega
   · rw [if_neg hk]
     exact ih
theorem vars_few {ds:List Nd} (h:(declW [] ds).2=0):(varsL ds).length≤32:=by
 have h1:=cnt_le h 1 ds.length (Nat.le_refl _)
 rw [List.take_length] at h1
 have e:cntK ds 1=(varsL ds).length:=by
  unfold cntK varsL
  rw [List.length_map]
  congr 1
  apply List.filter_congr
  intro x _
  unfold kD
  by_cases hz:dSz x=0 <;> simp [hz]
 rw [e] at h1
 have e2:mostK 1=32:=rfl
 omega
theorem arrs_few {ds:List Nd} (h:(declW [] ds).2=0):(arrsL ds).length≤16:=by
 have h1:=cnt_le h 2 ds.length (Nat.le_refl _)
 rw [List.take_length] at h1
 have e:cntK ds 2=(arrsL ds).length:=by
  unfold cntK arrsL
  congr 1
  apply List.filter_congr
  intro x _
  unfold kD
  by_cases hz:dSz x=0 <;> simp [hz]
 rw [e] at h1
 have e2:mostK 2=16:=rfl
 omega
theorem bad_all {f:ByteArray→Int}:∀ (l:List Us),(badU f l).2=0→∀ u ∈ l,f u.1=kindB u.2
 | [],_,u,hu=>by cases hu
 | x :: r,h,u,hu=>by
   unfold badU at h
   split at h
   · cases h
   · split at h
     · rename_i h1
       rcases List.mem_cons.1 hu with rfl | hu
       · exact h1
       · exact bad_all r h u hu
     · cases h
theorem prog_all {ds ss:List Nd} (hz:faultT (progT ds ss)=0):∀ y ∈ allL ds ++ allL ss,wellN y=true:=by
 unfold faultT at hz
 by_cases h0:(progT ds ss).lim=0
 · rw [if_neg (by simpa using h0)] at hz
   rw [progT_list h0] at hz
   have happ:∀ (l m:List Nd),allL (l ++ m)=allL l ++ allL m:=by
    intro l m
    induction l with
    | nil=>simp [allL]
    | cons x r ih=>rw [List.cons_append,allL,allL,ih,List.append_assoc]
   rw [happ] at hz
   by_cases h1:(allL ds ++ allL ss).any (fun x=>!wellN x)=true
   · rw [if_pos h1] at hz;cases hz
   · intro y hy
     cases hw:wellN y with
     | true=>rfl
     | false=>exact absurd (List.any_eq_true.2 ⟨y,hy,by simp [hw]⟩) h1
 · rw [if_pos (by simpa using h0)] at hz
   exact absurd hz (by simpa using h0)
theorem sl_rowR {w:World} {ty:Ty} {l:List Nd} {v:Value} {P:Prop} (h:SlOf l.length (fun b o=>RowIn w ty l b o) v) (hr:∀ b o,RowIn w ty l b o→P) (h0:l=[]→P):P:=by
 obtain ⟨a,c,_,_,_,hz | ⟨b,o,_,hrow⟩⟩:=h
 · exact h0 (List.eq_nil_of_length_eq_zero hz)
 · exact hr b o hrow
theorem ownsRow_only {w w':World} {base:Nat} {e:TypeId} {size n B:Nat} {v:Value} {xs:List Value} (h:w.ownsRow base e size v n xs) (ho:Only B w w') (hB:B < base):w'.ownsRow base e size v n xs:=by
 refine h.kept (only_grown ho) ?_
 cases hb:v.ownBlock with
 | none=>exact .inl rfl
 | some k =>
   right
   intro e
   have:=(h.lt k hb).1
   simp only [Option.some.injEq] at e
   omega
end Go.Proofs.YtmohmggnjldddaaGreatDoor
