/-
  The document's Rune at a first byte of a rune of 4 bytes: proved is that it answers what the model decodes.
-/
import Derived.Test.YtmohmggnjldddaaGreatDoorQTwalk
import Derived.OwnWalk
import Derived.Deep.AppendLies
import Derived.Deep.RegionLaw
import Derived.Deep.RegionWith
import Derived.Deep.Onto
import Derived.BigRegion
import Derived.Deep.DeepCutAuto
import Derived.Deep.CutBlock
import Derived.Lib.DecodeN
import Derived.Shelf.Unicode.DecodeSlow
import Derived.Test.YtmohmggnjldddaaGreatDoorProg
import Derived.WalkKit
import Derived.Outline
import Derived.Lib.Hide
import Derived.Deep.QuietTactic
import Derived.BigQuiet
namespace Go.Proofs.YtmohmggnjldddaaGreatDoor
open Go Go.RowKit
theorem Nd.mem_size {x y:Nd} (h:y ∈ x.xs ∨ y ∈ x.cs ∨ y ∈ x.ts ∨ y ∈ x.es):SizeOf.sizeOf y < SizeOf.sizeOf x:=by
 obtain ⟨ty,k,n,nm,xs,cs,ts,es⟩:=x
 simp only [Nd.xs,Nd.cs,Nd.ts,Nd.es] at h
 simp only [Nd.mk.sizeOf_spec]
 rcases h with h | h | h | h <;> (have:=List.sizeOf_lt_of_mem h;omega)
theorem SlIn.item4 {w:World} {ty:Ty} {l:List Nd} {b o:Nat} (hz:ty.size=4) (h:RowIn w ty l b o) (i:Nat) (hi:i < l.length):(l[i]).ty=ty∧∃ v0 v1 v2 v3,w.cell? ⟨b,o+i * 4,none⟩=some v0∧w.cell? ⟨b,o+i * 4+1,none⟩=some v1∧w.cell? ⟨b,o+i * 4+2,none⟩=some v2∧w.cell? ⟨b,o+i * 4+3,none⟩=some v3∧NdIn w l[i] [v0,v1,v2,v3]:=by
 obtain ⟨h1,vs,h2,h3⟩:=RowIn.at l b o i hi h
 have hl:=h3.len
 rw [h1,hz] at hl
 obtain ⟨v0,v1,v2,v3,rfl⟩:=len4 hl
 rw [hz] at h2
 exact ⟨h1,v0,v1,v2,v3,h2 0 _ rfl,h2 1 _ rfl,h2 2 _ rfl,h2 3 _ rfl,h3⟩
def ifTy:Ty→TypeId | .E=>248 | .C=>246 | .S=>243 | .D=>242
def nodeV (ty:Ty) (vs:List Value):Value:=.iface (ifTy ty) (.agg vs.toArray)
structure Tr where
 l:List Nd
 dep:Int
 lim:Int
def Tr.ok (t:Tr):Prop:=t.l.length≤4096∧0≤t.dep∧t.dep≤64
def byd (k:Nat) (d:Int):Int:=if k=4096 then 33 else if 64 < d then 32 else 0
def nodeT (x:Nd) (d:Int) (t:Tr):Tr:=if byd t.l.length d ≠ 0 then ⟨t.l,t.dep,byd t.l.length d⟩ else ⟨t.l ++ [x],max t.dep d,0⟩
mutual
def tourN:Nd→Int→Tr→Tr
 | .mk ty k n s xs cs ts es,d,t =>
   if (nodeT (.mk ty k n s xs cs ts es) d t).lim ≠ 0 then nodeT (.mk ty k n s xs cs ts es) d t else match ty with
    | .E=>tourL xs (d+1) (nodeT (.mk ty k n s xs cs ts es) d t)
    | .C=>if (tourL xs (d+1) (nodeT (.mk ty k n s xs cs ts es) d t)).lim ≠ 0 then tourL xs (d+1) (nodeT (.mk ty k n s xs cs ts es) d t) else tourL cs (d+1) (tourL xs (d+1) (nodeT (.mk ty k n s xs cs ts es) d t))
    | .S=>let a:=tourL cs (d+1) (nodeT (.mk ty k n s xs cs ts es) d t)
      if a.lim ≠ 0 then a else let b:=tourL xs (d+1) a
       if b.lim ≠ 0 then b else let c:=tourL ts (d+1) b
        if c.lim ≠ 0 then c else tourL es (d+1) c
    | .D=>nodeT (.mk ty k n s xs cs ts es) d t
def tourL:List Nd→Int→Tr→Tr
 | [],_,t=>t
 | x :: r,d,t=>if (tourN x d t).lim ≠ 0 then tourN x d t else tourL r d (tourN x d t)
end
def NodesAre (w0:World) (l:List Nd) (xs:List Value):Prop:=∀ i (h:i < l.length),∃ vs,xs[i]?=some (nodeV (l[i]).ty vs)∧NdIn w0 l[i] vs
theorem NodesAre.nil (w0:World):NodesAre w0 [] []:=fun i h=>by simp at h
theorem NodesAre.snoc {w0:World} {l:List Nd} {xs:List Value} {x:Nd} {vs:List Value} (h:NodesAre w0 l xs) (hl:xs.length=l.length) (hx:NdIn w0 x vs):NodesAre w0 (l ++ [x]) (xs ++ [nodeV x.ty vs]):=fun i hi=>by
 by_cases h1:i < l.length
 · obtain ⟨us,h2,h3⟩:=h i h1
   refine ⟨us,?_,?_⟩
   · rw [List.getElem?_append_left (by omega),List.getElem_append_left h1];exact h2
   · rw [List.getElem_append_left h1];exact h3
 · have e:i=l.length:=by simp at hi;omega
   subst e
   refine ⟨vs,?_,?_⟩
   · rw [List.getElem?_append_right (by omega)]
     simp [hl]
   · simpa using hx
structure TourIn (w0 w:World) (B:Nat) (t:Tr) (v:Value):Prop where
 blk:Blk w B #[v,.int .i64 t.dep,.int .i64 t.lim] 169
 own:∃ xs,w.ownsRow (B+1) 208 1 v t.l.length xs∧NodesAre w0 t.l xs
structure Fr (B:Nat) (row row':Option Nat) (w w':World):Prop where
 os:w'.os=w.os
 tape:w'.tape=w.tape
 output:w'.output=w.output
 size:w.heap.size≤w'.heap.size
 block:∀ k,k < w.heap.size→k ≠ B→some k ≠ row→w'.heap[k]?=w.heap[k]?
 row:row'=row ∨ ∀ g,row'=some g→w.heap.size≤g
theorem Fr.refl (B:Nat) (row:Option Nat) (w:World):Fr B row row w w:=⟨rfl,rfl,rfl,Nat.le_refl _,fun _ _ _ _=>rfl,.inl rfl⟩
theorem Fr.trans {B:Nat} {r0 r1 r2:Option Nat} {a b c:World} (h:Fr B r0 r1 a b) (k:Fr B r1 r2 b c):Fr B r0 r2 a c:=by
 refine ⟨k.os.trans h.os,k.tape.trans h.tape,k.output.trans h.output,Nat.le_trans h.size k.size,fun i hi hn hr=>?_,?_⟩
 · refine (k.block i (Nat.lt_of_lt_of_le hi h.size) hn ?_).trans (h.block i hi hn hr)
   rcases h.row with h1 | h1
   · rw [h1];exact hr
   · intro e;have:=h1 i e.symm;omega
 · rcases k.row with h2 | h2
   · rw [h2];exact h.row
   · exact .inr fun g hg=>Nat.le_trans h.size (h2 g hg)
theorem Fr.below {B:Nat} {r:Option Nat} {w w':World} (h:Below w.heap.size w w'):Fr B r r w w':=⟨h.os,h.tape,h.output,h.size,fun k hk _ _=>h.block k hk,.inl rfl⟩
theorem Fr.only {B:Nat} {r:Option Nat} {w w':World} (h:Only B w w'):Fr B r r w w':=⟨h.os,h.tape,h.output,h.size,fun k hk hn _=>h.block k hk hn,.inl rfl⟩
theorem Fr.alloc {B:Nat} {r r':Option Nat} {a w:World} (h:Fr B r r' a w) (o:Obj):Fr B r r' a (w.alloc o):=h.trans (Fr.below ((Below.refl _ w).alloc (Nat.le_refl _) o))
theorem Fr.old {B B0:Nat} {r r':Option Nat} {w w':World} (h:Fr B r r' w w') (h0:B0≤B) (h1:B0≤w.heap.size) (hr:∀ g,r=some g→B < g):Below B0 w w' :=
 ⟨h.os,h.tape,h.output,h.size,fun k hk=>h.block k (by omega) (by omega) (fun e=>by have:=hr k e.symm;omega)⟩
theorem Blk.fr {B:Nat} {r r':Option Nat} {w w':World} {b:Nat} {cs:Array Value} {t:TypeId} (h:Blk w b cs t) (ho:Fr B r r' w w') (hb:b ≠ B) (hr:some b ≠ r):Blk w' b cs t:=(ho.block b h.lt hb hr).trans h
theorem TourIn.below {w0 w w':World} {B:Nat} {t:Tr} {v:Value} (h:TourIn w0 w B t v) (hb:Below w.heap.size w w'):TourIn w0 w' B t v:=by
 obtain ⟨h1,xs,h2,h3⟩:=h
 refine ⟨h1.below hb h1.lt,xs,?_,h3⟩
 obtain ⟨h4,h5⟩:=h2
 refine ⟨h4,h5.imp id fun ⟨g,cap,cur,hv,hg,hh,hr⟩=>⟨g,cap,cur,hv,hg,(hb.block g (Array.getElem?_eq_some_iff.1 hh).1).trans hh,hr⟩⟩
theorem TourIn.row {w0 w:World} {B:Nat} {t:Tr} {v:Value} (h:TourIn w0 w B t v):∀ g,v.ownBlock=some g→B < g∧g < w.heap.size:=fun g hg=>by
 obtain ⟨_,xs,h2,_⟩:=h
 have:=h2.lt g hg
 omega
theorem TourIn.shape {w0 w:World} {B:Nat} {t:Tr} {v:Value} (h:TourIn w0 w B t v):∃ a c,v=.slice a t.l.length c:=by
 obtain ⟨_,xs,h2,_⟩:=h
 rcases h2 with ⟨_,⟨h1,h2⟩ | ⟨g,cap,cur,hv,_⟩⟩
 · exact ⟨none,0,by rw [h2,h1]⟩
 · exact ⟨_,_,hv⟩
theorem beyond_any (w0 w:World) (B:Nat) (t:Tr) (v:Value) (d:Int) (h:TourIn w0 w B t v) :
    Calls Tryz.prog 174 #[.pointer (some ⟨B,0,none⟩),.int .i64 d] w fun e w'=>e=.returned (.int .i64 (byd t.l.length d))∧w=w':=by
 obtain ⟨a,c,rfl⟩:=h.shape
 have c0:w.cell? ⟨B,0,none⟩=some (.slice a t.l.length c):=h.blk.cell 0
 clear h
 by_cases hk:t.l.length=4096
 · have hb:byd t.l.length d=33:=by unfold byd;rw [if_pos hk]
   rw [hb]
   have hk2:((t.l.length:Int) == 4096)=true:=by simp [hk]
   clear hb hk
   go_enter Tryz.func174,Tryz.ntmps174
   go_wp2
   go_ret
   exact ⟨rfl,rfl⟩
 · have hk2:((t.l.length:Int) == 4096)=false:=by rw [beq_eq_false_iff_ne];omega
   by_cases h64:64 < d
   · have hb:byd t.l.length d=32:=by unfold byd;rw [if_neg hk,if_pos h64]
     rw [hb]
     clear hb hk
     go_enter Tryz.func174,Tryz.ntmps174
     go_wp2
     go_ret
     exact ⟨rfl,rfl⟩
   · have hb:byd t.l.length d=0:=by unfold byd;rw [if_neg hk,if_neg h64]
     rw [hb]
     clear hb hk
     go_enter Tryz.func174,Tryz.ntmps174
     go_wp2
     go_ret
     exact ⟨rfl,rfl⟩
theorem exprNode_any (v0 v1 v2 v3:Value) (w:World) :
    Calls Tryz.prog 229 #[.agg #[v0,v1,v2,v3]] w fun e w'=>e=.returned (nodeV .E [v0,v1,v2,v3])∧Below w.heap.size w w':=by
 go_enter Tryz.func229,Tryz.ntmps229
 go_wp2
 go_ret
 exact ⟨rfl,(Below.refl _ _).alloc (Nat.le_refl _) _⟩
def TouredTo (w0 w:World) (B:Nat) (v:Value) (t':Tr) (e:Ending) (w':World):Prop:=∃ v',e=.returned (.bool (decide (t'.lim=0)))∧TourIn w0 w' B t' v'∧Fr B v.ownBlock v'.ownBlock w w'
def WalkOf (w0:World) (B:Nat) (x:Nd):Prop:=∀ (vs:List Value) (d:Int) (t:Tr) (v:Value) (w:World),NdIn w0 x vs→Below w0.heap.size w0 w→w0.heap.size≤B→0≤d→d≤100→t.ok→t.lim=0→TourIn w0 w B t v →
 Calls Tryz.prog 139 #[.pointer (some ⟨B,0,none⟩),nodeV x.ty vs,.int .i64 d] w (TouredTo w0 w B v (tourN x d t))
theorem byd_zero {k:Nat} {d:Int} (h:byd k d=0):k ≠ 4096∧d≤64:=by
 unfold byd at h
 split at h
 · cases h
 · split at h
   · cases h
   · exact ⟨‹_›,by omega⟩
theorem nodeT_ok {x:Nd} {d:Int} {t:Tr} (h:t.ok) (_hd:0≤d):(nodeT x d t).ok:=by
 unfold nodeT
 obtain ⟨h1,h2,h3⟩:=h
 split
 · exact ⟨h1,h2,h3⟩
 · rename_i hb
   have hz:=byd_zero (Classical.not_not.1 hb)
   refine ⟨?_,?_,?_⟩ <;> simp <;> omega
mutual
theorem tourN_ok:∀ (x:Nd) (d:Int) (t:Tr),t.ok→0≤d→(tourN x d t).ok
 | .mk ty k n nm xs cs ts es,d,t,h,hd=>by
   have h0:=nodeT_ok (x:=.mk ty k n nm xs cs ts es) (d:=d) h hd
   unfold tourN
   split
   · exact h0
   · cases ty with
     | E=>exact tourL_ok xs _ _ h0 (by omega)
     | C =>
       simp only
       split
       · exact tourL_ok xs _ _ h0 (by omega)
       · exact tourL_ok cs _ _ (tourL_ok xs _ _ h0 (by omega)) (by omega)
     | S =>
       simp only
       have ha:=tourL_ok cs (d+1) _ h0 (by omega)
       have hb:=tourL_ok xs (d+1) _ ha (by omega)
       have hc:=tourL_ok ts (d+1) _ hb (by omega)
       split
       · exact ha
       · split
         · exact hb
         · split
           · exact hc
           · exact tourL_ok es (d+1) _ hc (by omega)
     | D=>exact h0
theorem tourL_ok:∀ (l:List Nd) (d:Int) (t:Tr),t.ok→0≤d→(tourL l d t).ok
 | [],d,t,h,_=>by unfold tourL;exact h
 | x :: r,d,t,h,hd=>by
   unfold tourL
   split
   · exact tourN_ok x d t h hd
   · exact tourL_ok r d _ (tourN_ok x d t h hd) hd
end
theorem tourL_drop {l:List Nd} {i:Nat} (h:i < l.length) (d:Int) (t:Tr):tourL (l.drop i) d t=if (tourN l[i] d t).lim ≠ 0 then tourN l[i] d t else tourL (l.drop (i+1)) d (tourN l[i] d t):=by
 rw [List.drop_eq_getElem_cons h,tourL]
set_option maxHeartbeats 1000000 in
theorem walk1_any (w0:World) (B:Nat) (x:Nd) (hwalk:WalkOf w0 B x) (vs:List Value) (d:Int) (t:Tr) (v:Value) (w:World) (c3 c5:Nat) (T3 T5:TypeId) (hx:NdIn w0 x vs) (hw:Below w0.heap.size w0 w) (hB0:w0.heap.size≤B) (hd0:0≤d) (hd1:d≤90) (ht:t.ok) (hl:t.lim=0)
    (h3:Blk w c3 #[.pointer (some ⟨B,0,none⟩)] T3) (h5:Blk w c5 #[.int .i64 d] T5) (hin:TourIn w0 w B t v) :
    Calls Tryz.prog 175 #[nodeV x.ty vs,.pointer (some ⟨c3,0,none⟩),.pointer (some ⟨c5,0,none⟩)] w (TouredTo w0 w B v (tourN x (d+1) t)):=by
 have k3:w.cell? ⟨c3,0,none⟩=some (.pointer (some ⟨B,0,none⟩)):=h3.cell 0
 have k5:w.cell? ⟨c5,0,none⟩=some (.int .i64 d):=h5.cell 0
 have HC:=Lib.hid (hwalk vs (d+1) t v w hx hw hB0 (by omega) (by omega) ht hl hin)
 clear h3 h5 hin hwalk hx hw ht hl
 obtain ⟨N,hN⟩:∃ N,nodeV x.ty vs=N:=⟨_,rfl⟩
 rw [hN] at HC ⊢
 clear hN
 obtain ⟨t2,ht2⟩:∃ t2,tourN x (d+1) t=t2:=⟨_,rfl⟩
 rw [ht2] at HC ⊢
 clear ht2
 go_enter Tryz.func175,Tryz.ntmps175
 go_wp2_with fail
 refine HC.out.mono ?_
 rintro e w2 ⟨v',rfl,h2,h3⟩
 go_wp2
 go_ret
 exact ⟨v',rfl,h2,h3⟩
theorem NdIn.formE {w:World} {x:Nd} {v0 v1 v2 v3:Value} (hty:x.ty=.E) (h:NdIn w x [v0,v1,v2,v3]):∃ (k n:Int) (s:ByteArray) (a:Option Addr) (len c:Nat),v0=.int .i64 k∧v1=.int .i64 n∧v2=.string s∧v3=.slice a len c:=by
 obtain ⟨ty,k,n,nm,xs,cs,ts,es⟩:=x
 simp only [Nd.ty] at hty
 subst hty
 unfold NdIn at h
 obtain ⟨_,_,_,_,vx,vc,vt,ve,hvs,⟨a,c,rfl,_⟩,_⟩:=h
 simp only [lay,List.cons.injEq,and_true] at hvs
 obtain ⟨rfl,rfl,rfl,rfl⟩:=hvs
 exact ⟨_,_,_,_,_,_,rfl,rfl,rfl,rfl⟩
set_option maxRecDepth 100000 in
set_option maxHeartbeats 4000000 in
theorem showE_any (w0:World) (B:Nat) (xs:List Nd) (hwalk:∀ i (h:i < xs.length),WalkOf w0 B xs[i]) (vx:Value) (d:Int) (t:Tr) (v:Value) (w:World) (c3 c5:Nat) (T3 T5:TypeId) (hx:SlIn w0 .E xs vx) (hw:Below w0.heap.size w0 w) (hB0:w0.heap.size≤B) (hd0:0≤d) (hd1:d≤90) (ht:t.ok) (hl:t.lim=0)
    (h3:Blk w c3 #[.pointer (some ⟨B,0,none⟩)] T3) (h5:Blk w c5 #[.int .i64 d] T5) (hc3:c3 ≠ B) (hc5:c5 ≠ B) (hr3:some c3 ≠ v.ownBlock) (hr5:some c5 ≠ v.ownBlock) (hin:TourIn w0 w B t v) :
    Calls Tryz.prog 228 #[vx,.func (.func 229) #[] #[],.func (.func 175) #[] #[.pointer (some ⟨c3,0,none⟩),.pointer (some ⟨c5,0,none⟩)]] w (TouredTo w0 w B v (tourL xs (d+1) t)):=by
 obtain ⟨a,c,rfl,hlc,hcm,hrow⟩:=hx
 have HROW:=Lib.hid hrow;clear hrow
 have HW:=Lib.hid hwalk;clear hwalk
 have HIN:=Lib.hid hin;clear hin
 have H3:=Lib.hid h3;clear h3
 have H5:=Lib.hid h5;clear h5
 go_enter Tryz.func228,Tryz.ntmps228
 go_wp2
 go_loopw [11] (fun x wr=>∃ (i:Nat) (t':Tr) (v':Value),x=.int .i64 i∧i≤xs.length∧tourL xs (d+1) t=tourL (xs.drop i) (d+1) t'∧t'.ok∧t'.lim=0∧TourIn w0 wr B t' v'∧Fr B v.ownBlock v'.ownBlock w wr) (fun x _=>xs.length - (intOf x).toNat)
 case atStart=>exact ⟨0,t,v,rfl,by omega,rfl,ht,hl,HIN.out,Fr.refl _ _ _⟩
 case round =>
  obtain ⟨i,t',v',rfl,hi,heq,htok,htl,hinr,hfr⟩:=hrel
  by_cases hlt:i < xs.length
  · have hbi:(i:Int)+1≤9223372036854775807:=by unfold maxLen at hcm;omega
    have hxl:¬ xs.length=0:=by omega
    obtain ⟨b,o,rfl,hrow⟩:=HROW.out.resolve_left hxl
    have hold:Below w0.heap.size w0 wr:=hw.trans (hfr.old hB0 hw.size (fun g hg=>(HIN.out.row g hg).1))
    obtain ⟨hty,u0,u1,u2,u3,m0,m1,m2,m3,hnd⟩:=SlIn.item4 rfl hrow i hlt
    obtain ⟨nk,nn,ns,na,nl,nc,rfl,rfl,rfl,rfl⟩:=NdIn.formE hty hnd
    have kk:=keeps_below hold
    have k0:=kk _ _ _ m0
    have k1:=kk _ _ _ m1
    have k2:=kk _ _ _ m2
    have k3:=kk _ _ _ m3
    go_wp2_with (first | (go_at_call 229;(with_reducible refine (exprNode_any _ _ _ _ _).mono ?_);rintro e w1 ⟨rfl,hb1⟩) | fail)
    have htd:=tourL_drop hlt (d+1) t'
    have htk:=tourN_ok xs[i] (d+1) t' htok (by omega)
    have hb0:Below wr.heap.size wr w1:=((Below.refl _ wr).alloc (Nat.le_refl _) (.cells #[.int .i64 nk,.int .i64 nn,.string ns,.slice na nl nc] 142)).trans (hb1.mono (by simp))
    have hin1:=hinr.below hb0
    have b3:=(H3.out.fr hfr hc3 hr3).below hb0 (H3.out.fr hfr hc3 hr3).lt
    have b5:=(H5.out.fr hfr hc5 hr5).below hb0 (H5.out.fr hfr hc5 hr5).lt
    have HC:=Lib.hid (walk1_any w0 B xs[i] (HW.out i hlt) _ d t' v' w1 c3 c5 T3 T5 hnd (hold.trans (hb0.mono hold.size)) hB0 hd0 hd1 htok htl b3 b5 hin1)
    rw [hty] at HC
    obtain ⟨t2,ht2⟩:∃ t2,tourN xs[i] (d+1) t'=t2:=⟨_,rfl⟩
    rw [ht2] at HC htd htk
    clear ht2 b3 b5 hin1 hnd hty m0 m1 m2 m3 kk hold hrow hinr
    have hfr1:=hfr.trans (Fr.below (B:=B) hb0)
    have HFR:=Lib.hid hfr1;clear hfr1 hfr hb0
    by_cases hz:t2.lim=0
    · rw [if_neg (by simpa using hz)] at htd
      refine HC.out.mono ?_
      rintro e w2 ⟨v2,rfl,hin2,hfr2⟩
      have hdz:decide (t2.lim=0)=true:=by simpa using hz
      rw [hdz]
      clear hdz
      have HF2:=Lib.hid (HFR.out.trans hfr2)
      have HI2:=Lib.hid hin2
      have HEQ:=Lib.hid (heq.trans htd)
      clear hfr2 hin2 heq htd
      go_wp2
      go_roundw
      case rel=>exact ⟨i+1,t2,v2,by go_num,by omega,HEQ.out,htk,hz,HI2.out,HF2.out⟩
      case measure=>simp [intOf];omega
    · rw [if_pos (by simpa using hz)] at htd
      refine HC.out.mono ?_
      rintro e w2 ⟨v2,rfl,hin2,hfr2⟩
      have hdz:decide (t2.lim=0)=false:=by simpa using hz
      rw [hdz]
      have HF2:=Lib.hid (HFR.out.trans hfr2)
      have HI2:=Lib.hid hin2
      have HEQ:=Lib.hid (heq.trans htd)
      have HDZ:=Lib.hid hdz
      clear hfr2 hin2 heq htd hdz
      go_wp2
      go_ret
      rw [HEQ.out]
      exact ⟨v2,by rw [HDZ.out];rfl,HI2.out,HF2.out⟩
  · obtain rfl:i=xs.length:=by omega
    rw [List.drop_length,tourL] at heq
    have HEQ:=Lib.hid heq;clear heq
    have hdz:decide (t'.lim=0)=true:=by simpa using htl
    have HDZ:=Lib.hid hdz;clear hdz
    have HF:=Lib.hid hfr;clear hfr
    have HI:=Lib.hid hinr;clear hinr
    go_wp2
    go_ret
    rw [HEQ.out]
    exact ⟨v',by rw [HDZ.out];rfl,HI.out,HF.out⟩
theorem condNode_any (v0 v1 v2 v3:Value) (w:World) :
    Calls Tryz.prog 227 #[.agg #[v0,v1,v2,v3]] w fun e w'=>e=.returned (nodeV .C [v0,v1,v2,v3])∧Below w.heap.size w w':=by
 go_enter Tryz.func227,Tryz.ntmps227
 go_wp2
 go_ret
 exact ⟨rfl,(Below.refl _ _).alloc (Nat.le_refl _) _⟩
theorem stmtNode_any (v0 v1 v2 v3 v4 v5:Value) (w:World) :
    Calls Tryz.prog 143 #[.agg #[v0,v1,v2,v3,v4,v5]] w fun e w'=>e=.returned (nodeV .S [v0,v1,v2,v3,v4,v5])∧Below w.heap.size w w':=by
 go_enter Tryz.func143,Tryz.ntmps143
 go_wp2
 go_ret
 exact ⟨rfl,(Below.refl _ _).alloc (Nat.le_refl _) _⟩
theorem declNode_any (v0 v1:Value) (w:World) :
    Calls Tryz.prog 141 #[.agg #[v0,v1]] w fun e w'=>e=.returned (nodeV .D [v0,v1])∧Below w.heap.size w w':=by
 go_enter Tryz.func141,Tryz.ntmps141
 go_wp2
 go_ret
 exact ⟨rfl,(Below.refl _ _).alloc (Nat.le_refl _) _⟩
theorem SlIn.item2 {w:World} {ty:Ty} {l:List Nd} {b o:Nat} (hz:ty.size=2) (h:RowIn w ty l b o) (i:Nat) (hi:i < l.length):(l[i]).ty=ty∧∃ v0 v1,w.cell? ⟨b,o+i * 2,none⟩=some v0∧w.cell? ⟨b,o+i * 2+1,none⟩=some v1∧NdIn w l[i] [v0,v1]:=by
 obtain ⟨h1,vs,h2,h3⟩:=RowIn.at l b o i hi h
 have hl:=h3.len
 rw [h1,hz] at hl
 obtain ⟨v0,v1,rfl⟩:=len2 hl
 rw [hz] at h2
 exact ⟨h1,v0,v1,h2 0 _ rfl,h2 1 _ rfl,h3⟩
theorem SlIn.item6 {w:World} {ty:Ty} {l:List Nd} {b o:Nat} (hz:ty.size=6) (h:RowIn w ty l b o) (i:Nat) (hi:i < l.length):(l[i]).ty=ty∧∃ v0 v1 v2 v3 v4 v5,w.cell? ⟨b,o+i * 6,none⟩=some v0∧w.cell? ⟨b,o+i * 6+1,none⟩=some v1∧w.cell? ⟨b,o+i * 6+2,none⟩=some v2∧w.cell? ⟨b,o+i * 6+3,none⟩=some v3∧w.cell? ⟨b,o+i * 6+4,none⟩=some v4∧w.cell? ⟨b,o+i * 6+5,none⟩=some v5∧NdIn w l[i] [v0,v1,v2,v3,v4,v5]:=by
 obtain ⟨h1,vs,h2,h3⟩:=RowIn.at l b o i hi h
 have hl:=h3.len
 rw [h1,hz] at hl
 obtain ⟨v0,v1,v2,v3,v4,v5,rfl⟩:=len6 hl
 rw [hz] at h2
 exact ⟨h1,v0,v1,v2,v3,v4,v5,h2 0 _ rfl,h2 1 _ rfl,h2 2 _ rfl,h2 3 _ rfl,h2 4 _ rfl,h2 5 _ rfl,h3⟩
theorem NdIn.formC {w:World} {x:Nd} {v0 v1 v2 v3:Value} (hty:x.ty=.C) (h:NdIn w x [v0,v1,v2,v3]):∃ (k n:Int) (a:Option Addr) (len c:Nat) (a2:Option Addr) (len2 c2:Nat),v0=.int .i64 k∧v1=.int .i64 n∧v2=.slice a len c∧v3=.slice a2 len2 c2:=by
 obtain ⟨ty,k,n,nm,xs,cs,ts,es⟩:=x
 simp only [Nd.ty] at hty
 subst hty
 unfold NdIn at h
 obtain ⟨_,_,_,_,vx,vc,vt,ve,hvs,⟨a,c,rfl,_⟩,⟨a2,c2,rfl,_⟩,_⟩:=h
 simp only [lay,List.cons.injEq,and_true] at hvs
 obtain ⟨rfl,rfl,rfl,rfl⟩:=hvs
 exact ⟨_,_,_,_,_,_,_,_,rfl,rfl,rfl,rfl⟩
theorem NdIn.formS {w:World} {x:Nd} {v0 v1 v2 v3 v4 v5:Value} (hty:x.ty=.S) (h:NdIn w x [v0,v1,v2,v3,v4,v5]):∃ (k:Int) (s:ByteArray) (a:Option Addr) (len c:Nat) (a2:Option Addr) (len2 c2:Nat) (a3:Option Addr) (len3 c3:Nat) (a4:Option Addr) (len4 c4:Nat),v0=.int .i64 k∧v1=.string s∧v2=.slice a len c∧v3=.slice a2 len2 c2∧v4=.slice a3 len3 c3∧v5=.slice a4 len4 c4:=by
 obtain ⟨ty,k,n,nm,xs,cs,ts,es⟩:=x
 simp only [Nd.ty] at hty
 subst hty
 unfold NdIn at h
 obtain ⟨_,_,_,_,vx,vc,vt,ve,hvs,⟨a,c,rfl,_⟩,⟨a2,c2,rfl,_⟩,⟨a3,c3,rfl,_⟩,⟨a4,c4,rfl,_⟩⟩:=h
 simp only [lay,List.cons.injEq,and_true] at hvs
 obtain ⟨rfl,rfl,rfl,rfl,rfl,rfl⟩:=hvs
 exact ⟨_,_,_,_,_,_,_,_,_,_,_,_,_,_,rfl,rfl,rfl,rfl,rfl,rfl⟩
theorem NdIn.formD {w:World} {x:Nd} {v0 v1:Value} (hty:x.ty=.D) (h:NdIn w x [v0,v1]):∃ (s:ByteArray) (n:Int),v0=.string s∧v1=.int .i64 n:=by
 obtain ⟨ty,k,n,nm,xs,cs,ts,es⟩:=x
 simp only [Nd.ty] at hty
 subst hty
 unfold NdIn at h
 obtain ⟨_,_,_,_,vx,vc,vt,ve,hvs,_⟩:=h
 simp only [lay,List.cons.injEq,and_true] at hvs
 obtain ⟨rfl,rfl⟩:=hvs
 exact ⟨_,_,rfl,rfl⟩
set_option maxRecDepth 100000 in
set_option maxHeartbeats 4000000 in
theorem showC_any (w0:World) (B:Nat) (xs:List Nd) (hwalk:∀ i (h:i < xs.length),WalkOf w0 B xs[i]) (vx:Value) (d:Int) (t:Tr) (v:Value) (w:World) (c3 c5:Nat) (T3 T5:TypeId) (hx:SlIn w0 .C xs vx) (hw:Below w0.heap.size w0 w) (hB0:w0.heap.size≤B) (hd0:0≤d) (hd1:d≤90) (ht:t.ok) (hl:t.lim=0)
    (h3:Blk w c3 #[.pointer (some ⟨B,0,none⟩)] T3) (h5:Blk w c5 #[.int .i64 d] T5) (hc3:c3 ≠ B) (hc5:c5 ≠ B) (hr3:some c3 ≠ v.ownBlock) (hr5:some c5 ≠ v.ownBlock) (hin:TourIn w0 w B t v) :
    Calls Tryz.prog 226 #[vx,.func (.func 227) #[] #[],.func (.func 175) #[] #[.pointer (some ⟨c3,0,none⟩),.pointer (some ⟨c5,0,none⟩)]] w (TouredTo w0 w B v (tourL xs (d+1) t)):=by
 obtain ⟨a,c,rfl,hlc,hcm,hrow⟩:=hx
 have HROW:=Lib.hid hrow;clear hrow
 have HW:=Lib.hid hwalk;clear hwalk
 have HIN:=Lib.hid hin;clear hin
 have H3:=Lib.hid h3;clear h3
 have H5:=Lib.hid h5;clear h5
 go_enter Tryz.func226,Tryz.ntmps226
 go_wp2
 go_loopw [11] (fun x wr=>∃ (i:Nat) (t':Tr) (v':Value),x=.int .i64 i∧i≤xs.length∧tourL xs (d+1) t=tourL (xs.drop i) (d+1) t'∧t'.ok∧t'.lim=0∧TourIn w0 wr B t' v'∧Fr B v.ownBlock v'.ownBlock w wr) (fun x _=>xs.length - (intOf x).toNat)
 case atStart=>exact ⟨0,t,v,rfl,by omega,rfl,ht,hl,HIN.out,Fr.refl _ _ _⟩
 case round =>
  obtain ⟨i,t',v',rfl,hi,heq,htok,htl,hinr,hfr⟩:=hrel
  by_cases hlt:i < xs.length
  · have hbi:(i:Int)+1≤9223372036854775807:=by unfold maxLen at hcm;omega
    have hxl:¬ xs.length=0:=by omega
    obtain ⟨b,o,rfl,hrow⟩:=HROW.out.resolve_left hxl
    have hold:Below w0.heap.size w0 wr:=hw.trans (hfr.old hB0 hw.size (fun g hg=>(HIN.out.row g hg).1))
    obtain ⟨hty,u0,u1,u2,u3,m0,m1,m2,m3,hnd⟩:=SlIn.item4 rfl hrow i hlt
    obtain ⟨nk,nn,na,nl,nc,na2,nl2,nc2,rfl,rfl,rfl,rfl⟩:=NdIn.formC hty hnd
    have kk:=keeps_below hold
    have k0:=kk _ _ _ m0
    have k1:=kk _ _ _ m1
    have k2:=kk _ _ _ m2
    have k3:=kk _ _ _ m3
    go_wp2_with (first | (go_at_call 227;(with_reducible refine (condNode_any _ _ _ _ _).mono ?_);rintro e w1 ⟨rfl,hb1⟩) | fail)
    have htd:=tourL_drop hlt (d+1) t'
    have htk:=tourN_ok xs[i] (d+1) t' htok (by omega)
    have hb0:Below wr.heap.size wr w1:=((Below.refl _ wr).alloc (Nat.le_refl _) (.cells #[.int .i64 nk,.int .i64 nn,.slice na nl nc,.slice na2 nl2 nc2] 150)).trans (hb1.mono (by simp))
    have hin1:=hinr.below hb0
    have b3:=(H3.out.fr hfr hc3 hr3).below hb0 (H3.out.fr hfr hc3 hr3).lt
    have b5:=(H5.out.fr hfr hc5 hr5).below hb0 (H5.out.fr hfr hc5 hr5).lt
    have HC:=Lib.hid (walk1_any w0 B xs[i] (HW.out i hlt) _ d t' v' w1 c3 c5 T3 T5 hnd (hold.trans (hb0.mono hold.size)) hB0 hd0 hd1 htok htl b3 b5 hin1)
    rw [hty] at HC
    obtain ⟨t2,ht2⟩:∃ t2,tourN xs[i] (d+1) t'=t2:=⟨_,rfl⟩
    rw [ht2] at HC htd htk
    clear ht2 b3 b5 hin1 hnd hty m0 m1 m2 m3 kk hold hrow hinr
    have hfr1:=hfr.trans (Fr.below (B:=B) hb0)
    have HFR:=Lib.hid hfr1;clear hfr1 hfr hb0
    by_cases hz:t2.lim=0
    · rw [if_neg (by simpa using hz)] at htd
      refine HC.out.mono ?_
      rintro e w2 ⟨v2,rfl,hin2,hfr2⟩
      have hdz:decide (t2.lim=0)=true:=by simpa using hz
      rw [hdz]
      clear hdz
      have HF2:=Lib.hid (HFR.out.trans hfr2)
      have HI2:=Lib.hid hin2
      have HEQ:=Lib.hid (heq.trans htd)
      clear hfr2 hin2 heq htd
      go_wp2
      go_roundw
      case rel=>exact ⟨i+1,t2,v2,by go_num,by omega,HEQ.out,htk,hz,HI2.out,HF2.out⟩
      case measure=>simp [intOf];omega
    · rw [if_pos (by simpa using hz)] at htd
      refine HC.out.mono ?_
      rintro e w2 ⟨v2,rfl,hin2,hfr2⟩
      have hdz:decide (t2.lim=0)=false:=by simpa using hz
      rw [hdz]
      have HF2:=Lib.hid (HFR.out.trans hfr2)
      have HI2:=Lib.hid hin2
      have HEQ:=Lib.hid (heq.trans htd)
      have HDZ:=Lib.hid hdz
      clear hfr2 hin2 heq htd hdz
      go_wp2
      go_ret
      rw [HEQ.out]
      exact ⟨v2,by rw [HDZ.out];rfl,HI2.out,HF2.out⟩
  · obtain rfl:i=xs.length:=by omega
    rw [List.drop_length,tourL] at heq
    have HEQ:=Lib.hid heq;clear heq
    have hdz:decide (t'.lim=0)=true:=by simpa using htl
    have HDZ:=Lib.hid hdz;clear hdz
    have HF:=Lib.hid hfr;clear hfr
    have HI:=Lib.hid hinr;clear hinr
    go_wp2
    go_ret
    rw [HEQ.out]
    exact ⟨v',by rw [HDZ.out];rfl,HI.out,HF.out⟩
set_option maxRecDepth 100000 in
set_option maxHeartbeats 4000000 in
theorem showS_any (w0:World) (B:Nat) (xs:List Nd) (hwalk:∀ i (h:i < xs.length),WalkOf w0 B xs[i]) (vx:Value) (d:Int) (t:Tr) (v:Value) (w:World) (c3 c5:Nat) (T3 T5:TypeId) (hx:SlIn w0 .S xs vx) (hw:Below w0.heap.size w0 w) (hB0:w0.heap.size≤B) (hd0:0≤d) (hd1:d≤90) (ht:t.ok) (hl:t.lim=0)
    (h3:Blk w c3 #[.pointer (some ⟨B,0,none⟩)] T3) (h5:Blk w c5 #[.int .i64 d] T5) (hc3:c3 ≠ B) (hc5:c5 ≠ B) (hr3:some c3 ≠ v.ownBlock) (hr5:some c5 ≠ v.ownBlock) (hin:TourIn w0 w B t v) :
    Calls Tryz.prog 142 #[vx,.func (.func 143) #[] #[],.func (.func 175) #[] #[.pointer (some ⟨c3,0,none⟩),.pointer (some ⟨c5,0,none⟩)]] w (TouredTo w0 w B v (tourL xs (d+1) t)):=by
 obtain ⟨a,c,rfl,hlc,hcm,hrow⟩:=hx
 have HROW:=Lib.hid hrow;clear hrow
 have HW:=Lib.hid hwalk;clear hwalk
 have HIN:=Lib.hid hin;clear hin
 have H3:=Lib.hid h3;clear h3
 have H5:=Lib.hid h5;clear h5
 go_enter Tryz.func142,Tryz.ntmps142
 go_wp2
 go_loopw [11] (fun x wr=>∃ (i:Nat) (t':Tr) (v':Value),x=.int .i64 i∧i≤xs.length∧tourL xs (d+1) t=tourL (xs.drop i) (d+1) t'∧t'.ok∧t'.lim=0∧TourIn w0 wr B t' v'∧Fr B v.ownBlock v'.ownBlock w wr) (fun x _=>xs.length - (intOf x).toNat)
 case atStart=>exact ⟨0,t,v,rfl,by omega,rfl,ht,hl,HIN.out,Fr.refl _ _ _⟩
 case round =>
  obtain ⟨i,t',v',rfl,hi,heq,htok,htl,hinr,hfr⟩:=hrel
  by_cases hlt:i < xs.length
  · have hbi:(i:Int)+1≤9223372036854775807:=by unfold maxLen at hcm;omega
    have hxl:¬ xs.length=0:=by omega
    obtain ⟨b,o,rfl,hrow⟩:=HROW.out.resolve_left hxl
    have hold:Below w0.heap.size w0 wr:=hw.trans (hfr.old hB0 hw.size (fun g hg=>(HIN.out.row g hg).1))
    obtain ⟨hty,u0,u1,u2,u3,u4,u5,m0,m1,m2,m3,m4,m5,hnd⟩:=SlIn.item6 rfl hrow i hlt
    obtain ⟨nk,ns,na,nl,nc,na2,nl2,nc2,na3,nl3,nc3,na4,nl4,nc4,rfl,rfl,rfl,rfl,rfl,rfl⟩:=NdIn.formS hty hnd
    have kk:=keeps_below hold
    have k0:=kk _ _ _ m0
    have k1:=kk _ _ _ m1
    have k2:=kk _ _ _ m2
    have k3:=kk _ _ _ m3
    have k4:=kk _ _ _ m4
    have k5:=kk _ _ _ m5
    go_wp2_with (first | (go_at_call 143;(with_reducible refine (stmtNode_any _ _ _ _ _ _ _).mono ?_);rintro e w1 ⟨rfl,hb1⟩) | fail)
    have htd:=tourL_drop hlt (d+1) t'
    have htk:=tourN_ok xs[i] (d+1) t' htok (by omega)
    have hb0:Below wr.heap.size wr w1:=((Below.refl _ wr).alloc (Nat.le_refl _) (.cells #[.int .i64 nk,.string ns,.slice na nl nc,.slice na2 nl2 nc2,.slice na3 nl3 nc3,.slice na4 nl4 nc4] 57)).trans (hb1.mono (by simp))
    have hin1:=hinr.below hb0
    have b3:=(H3.out.fr hfr hc3 hr3).below hb0 (H3.out.fr hfr hc3 hr3).lt
    have b5:=(H5.out.fr hfr hc5 hr5).below hb0 (H5.out.fr hfr hc5 hr5).lt
    have HC:=Lib.hid (walk1_any w0 B xs[i] (HW.out i hlt) _ d t' v' w1 c3 c5 T3 T5 hnd (hold.trans (hb0.mono hold.size)) hB0 hd0 hd1 htok htl b3 b5 hin1)
    rw [hty] at HC
    obtain ⟨t2,ht2⟩:∃ t2,tourN xs[i] (d+1) t'=t2:=⟨_,rfl⟩
    rw [ht2] at HC htd htk
    clear ht2 b3 b5 hin1 hnd hty m0 m1 m2 m3 m4 m5 kk hold hrow hinr
    have hfr1:=hfr.trans (Fr.below (B:=B) hb0)
    have HFR:=Lib.hid hfr1;clear hfr1 hfr hb0
    by_cases hz:t2.lim=0
    · rw [if_neg (by simpa using hz)] at htd
      refine HC.out.mono ?_
      rintro e w2 ⟨v2,rfl,hin2,hfr2⟩
      have hdz:decide (t2.lim=0)=true:=by simpa using hz
      rw [hdz]
      clear hdz
      have HF2:=Lib.hid (HFR.out.trans hfr2)
      have HI2:=Lib.hid hin2
      have HEQ:=Lib.hid (heq.trans htd)
      clear hfr2 hin2 heq htd
      go_wp2
      go_roundw
      case rel=>exact ⟨i+1,t2,v2,by go_num,by omega,HEQ.out,htk,hz,HI2.out,HF2.out⟩
      case measure=>simp [intOf];omega
    · rw [if_pos (by simpa using hz)] at htd
      refine HC.out.mono ?_
      rintro e w2 ⟨v2,rfl,hin2,hfr2⟩
      have hdz:decide (t2.lim=0)=false:=by simpa using hz
      rw [hdz]
      have HF2:=Lib.hid (HFR.out.trans hfr2)
      have HI2:=Lib.hid hin2
      have HEQ:=Lib.hid (heq.trans htd)
      have HDZ:=Lib.hid hdz
      clear hfr2 hin2 heq htd hdz
      go_wp2
      go_ret
      rw [HEQ.out]
      exact ⟨v2,by rw [HDZ.out];rfl,HI2.out,HF2.out⟩
  · obtain rfl:i=xs.length:=by omega
    rw [List.drop_length,tourL] at heq
    have HEQ:=Lib.hid heq;clear heq
    have hdz:decide (t'.lim=0)=true:=by simpa using htl
    have HDZ:=Lib.hid hdz;clear hdz
    have HF:=Lib.hid hfr;clear hfr
    have HI:=Lib.hid hinr;clear hinr
    go_wp2
    go_ret
    rw [HEQ.out]
    exact ⟨v',by rw [HDZ.out];rfl,HI.out,HF.out⟩
open Go
def rn (s:ByteArray) (i:Nat):Nat:=(Utf8.decode s i).1
def wd (s:ByteArray) (i:Nat):Nat:=(Utf8.decode s i).2
set_option maxRecDepth 100000 in
theorem decN_facts (n b0 b1 b2 b3:Nat) (hn:1≤n) (h0:b0 < 256) (h1:b1 < 256) (_h2:b2 < 256) (_h3:b3 < 256) :
    1≤(Lib.decodeN n b0 b1 b2 b3).2∧(Lib.decodeN n b0 b1 b2 b3).2≤n∧(Lib.decodeN n b0 b1 b2 b3).2≤4∧(Lib.decodeN n b0 b1 b2 b3).1≤1114111:=by
 unfold Lib.decodeN
 repeat' split
 all_goals (simp only;omega)
theorem dec_facts (s:ByteArray) (i:Nat) (h:i < s.size):1≤wd s i∧i+wd s i≤s.size∧wd s i≤4∧rn s i≤1114111:=by
 have:=decN_facts (s.size - i) (s.get! i).toNat (s.get! (i+1)).toNat (s.get! (i+2)).toNat (s.get! (i+3)).toNat (by omega) (UInt8.toNat_lt _) (UInt8.toNat_lt _) (UInt8.toNat_lt _) (UInt8.toNat_lt _)
 rw [← Lib.decode_at] at this
 unfold wd rn
 omega
def badB (s:ByteArray) (i:Nat):Bool:=rn s i == 65533 && wd s i == 1
def chk (s:ByteArray):Nat→Nat→Int × Int
 | 0,_=>(0,0)
 | f+1,pos=>if pos < s.size then (if badB s pos=true then ((pos:Int),11) else chk s f (pos+wd s pos)) else (0,0)
theorem ret_bool {a b:Bool} (h:a=b):Ending.returned (.bool a)=.returned (.bool b):=by rw [h]
theorem ret_int {k:IntKind} {a b:Int} (h:a=b):Ending.returned (.int k a)=.returned (.int k b):=by rw [h]
def letB (r:Int):Bool :=
 decide (r ≠ 215∧r ≠ 247∧r ≠ 930∧(r=95 ∨ (97≤r∧r≤122) ∨ (65≤r∧r≤90) ∨ (192≤r∧r≤591) ∨ (913≤r∧r≤969) ∨ (1040≤r∧r≤1103)))
theorem let_t {r:Int} (h:r ≠ 215∧r ≠ 247∧r ≠ 930∧(r=95 ∨ (97≤r∧r≤122) ∨ (65≤r∧r≤90) ∨ (192≤r∧r≤591) ∨ (913≤r∧r≤969) ∨ (1040≤r∧r≤1103))):true=letB r:=(decide_eq_true h).symm
theorem let_f {r:Int} (h:¬ (r ≠ 215∧r ≠ 247∧r ≠ 930∧(r=95 ∨ (97≤r∧r≤122) ∨ (65≤r∧r≤90) ∨ (192≤r∧r≤591) ∨ (913≤r∧r≤969) ∨ (1040≤r∧r≤1103)))):false=letB r:=(decide_eq_false h).symm
set_option maxHeartbeats 1000000 in
theorem letter_any (r:Int) (w:World):Calls Tryz.prog 207 #[.int .i32 r] w fun e w'=>e=.returned (.bool (letB r))∧w=w':=by
 go_enter Tryz.func207,Tryz.ntmps207
 go_wp2
 all_goals
  go_ret
  refine ⟨ret_bool ?_,rfl⟩
  simp only [beq_eq_false_iff_ne,ne_eq,beq_iff_eq] at *
  first | exact let_t (by omega) | exact let_f (by omega)
def isSign (r:Int):Prop:=r=59 ∨ r=44 ∨ r=123 ∨ r=125 ∨ r=40 ∨ r=41 ∨ r=91 ∨ r=93 ∨ r=61 ∨ r=33 ∨ r=60 ∨ r=62 ∨ r=43 ∨ r=45 ∨ r=42 ∨ r=47 ∨ r=37 ∨ r=38 ∨ r=124
instance (r:Int):Decidable (isSign r):=by unfold isSign;infer_instance
def cls (r:Int):Int :=
 if r=32 ∨ r=9 ∨ r=13 then 1 else if r=10 then 2 else if 48≤r∧r≤57 then 4 else if letB r=true then 3 else if isSign r then 5 else 6
theorem cls1 {r:Int} (h:r=32 ∨ r=9 ∨ r=13):1=cls r:=by unfold cls;rw [if_pos h]
theorem cls2 {r:Int} (h:r=10):2=cls r:=by subst h;rfl
theorem cls4 {r:Int} (h:48≤r∧r≤57):4=cls r:=by unfold cls;rw [if_neg (by omega),if_neg (by omega),if_pos h]
theorem cls5 {r:Int} (h:isSign r):5=cls r:=by
 have hl:letB r=false:=(let_f (by unfold isSign at h;omega)).symm
 unfold cls
 rw [if_neg (by unfold isSign at h;omega),if_neg (by unfold isSign at h;omega),if_neg (by unfold isSign at h;omega),if_neg (by rw [hl];simp),if_pos h]
theorem cls3 {r:Int} (h:letB r=true):3=cls r:=by
 have h':=of_decide_eq_true h
 unfold cls
 rw [if_neg (by omega),if_neg (by omega),if_neg (by omega),if_pos h]
theorem cls6 {r:Int} (h0:r ≠ 32∧r ≠ 9∧r ≠ 13∧r ≠ 10∧¬ (48≤r∧r≤57)) (h:¬ isSign r) (hl:letB r=false):6=cls r:=by
 unfold cls
 rw [if_neg (by omega),if_neg (by omega),if_neg (by omega),if_neg (by rw [hl];simp),if_neg h]
set_option maxRecDepth 100000 in
set_option maxHeartbeats 4000000 in
theorem class_t (r:Int) (w:World) (hl:letB r=true):Calls Tryz.prog 206 #[.int .i32 r] w fun e w'=>e=.returned (.int .i64 (cls r))∧w=w':=by
 have HL:=Lib.hid hl;clear hl
 go_enter Tryz.func206,Tryz.ntmps206
 go_wp2_with (go_at_call 207;refine (letter_any _ _).mono ?_;rintro e w' ⟨rfl,rfl⟩;have hlq:=HL.out)
 all_goals
  go_ret
  refine ⟨ret_int ?_,rfl⟩
  simp only [beq_eq_false_iff_ne,ne_eq,beq_iff_eq] at *
  first | exact cls3 HL.out | exact cls1 (by omega) | exact cls2 (by omega) | exact cls4 (by omega) | exact cls5 (by unfold isSign;omega)
set_option maxRecDepth 100000 in
set_option maxHeartbeats 4000000 in
theorem class_f (r:Int) (w:World) (hl:letB r=false):Calls Tryz.prog 206 #[.int .i32 r] w fun e w'=>e=.returned (.int .i64 (cls r))∧w=w':=by
 have HL:=Lib.hid hl;clear hl
 go_enter Tryz.func206,Tryz.ntmps206
 go_wp2_with (go_at_call 207;refine (letter_any _ _).mono ?_;rintro e w' ⟨rfl,rfl⟩;have hlq:=HL.out)
 all_goals
  go_ret
  refine ⟨ret_int ?_,rfl⟩
  simp only [beq_eq_false_iff_ne,ne_eq,beq_iff_eq] at *
  first | exact cls1 (by omega) | exact cls2 (by omega) | exact cls4 (by omega) | exact cls5 (by unfold isSign;omega) | exact cls6 (by omega) (by unfold isSign;omega) HL.out
theorem class_any (r:Int) (w:World):Calls Tryz.prog 206 #[.int .i32 r] w fun e w'=>e=.returned (.int .i64 (cls r))∧w=w':=by
 cases h:letB r with
 | true=>exact class_t r w h
 | false=>exact class_f r w h
def byt (s:ByteArray) (j:Nat):Nat:=(s.get! j).toNat
def val (s:ByteArray) (i:Nat) (v0:Int):Nat→Int
 | 0=>v0
 | 1=>v0
 | k+2=>64 * val s i v0 (k+1)+(byt s (i+(k+1)):Int) - 128
end Go.Proofs.YtmohmggnjldddaaGreatDoor
