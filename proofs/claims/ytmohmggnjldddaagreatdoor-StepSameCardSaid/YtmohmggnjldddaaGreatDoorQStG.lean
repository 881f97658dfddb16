/-
  Package step's machine: what it makes of an edge.
-/
import Derived.Test.YtmohmggnjldddaaGreatDoorQGrD
import Derived.Test.YtmohmggnjldddaaGreatDoorQReg
import Derived.Test.YtmohmggnjldddaaGreatDoorQGsD
import Derived.Test.YtmohmggnjldddaaGreatDoorQRunB
import Derived.Test.YtmohmggnjldddaaGreatDoorQStA
import Derived.Test.YtmohmggnjldddaaGreatDoorQOnO
import Derived.Deep.Onto
import Derived.Test.YtmohmggnjldddaaGreatDoorShelf
import Derived.Lib.OwnBridge
import Derived.Test.YtmohmggnjldddaaGreatDoorQAbb
namespace Go.Proofs.YtmohmggnjldddaaGreatDoor
set_option maxHeartbeats 8000000
set_option maxRecDepth 100000
open Go Go.RowKit Go.Maps
def takI (es:List Ed) (l:List Nat) (s:Rn):Int:=match takG es l s with
 | some j=>(j:Int)
 | none=>-1
theorem takG_snoc {es:List Ed} {l:List Nat} {s:Rn} {i:Nat} (hi:i<l.length) (h:takG es (l.take i) s=none) (hn:hldE (es.getD l[i] noE) s=false):takG es (l.take (i+1)) s=none:=by
 rw [← List.take_append_getElem hi]
 unfold takG at h ⊢
 rw [List.find?_append,h]
 simp only [Option.none_or,List.find?_cons,hn,List.find?_nil]
theorem takG_hit {es:List Ed} {l:List Nat} {s:Rn} {i:Nat} (hi:i<l.length) (h:takG es (l.take i) s=none) (hn:hldE (es.getD l[i] noE) s=true):takG es l s=some l[i]:=by
 have e:l=l.take i++l[i] :: l.drop (i+1):=by rw [← List.drop_eq_getElem_cons hi,List.take_append_drop]
 unfold takG at h ⊢
 conv=>lhs;rw [e]
 rw [List.find?_append,h]
 simp only [Option.none_or,List.find?_cons,hn]
theorem taken_any (vv va vi:Value) (s:Rn) (w:World) (hs:VsAt w s vv va vi) (es:List Ed) (ae:Option Addr) (ce:Nat) (he:EdsAt w es (.slice ae es.length ce)) (l:List Nat) (la:Option Addr) (lc:Nat) (hl:NumsAt w l la) (hll:l.length≤1099511627776) (hlt:∀ j ∈ l,j<es.length)
    (hv:∀ j ∈ l,(es.getD j noE).kd=12→((es.getD j noE).av<0∨(es.getD j noE).av<s.vars.length)∧((es.getD j noE).bv<0∨(es.getD j noE).bv<s.vars.length)) :
    Calls Tryz.prog 48 #[vsV vv va vi,.slice ae es.length ce,.slice la l.length lc] w (fun z w'=>z=.returned (.int .i64 (takI es l s))∧Below w.heap.size w w'):=by
 obtain ⟨X,hX⟩:∃ X,w.heap.size=X:=⟨_,rfl⟩
 obtain ⟨W1,hW1⟩:∃ W1,w.alloc (.cells #[vv,va,vi] 91)=W1:=⟨_,rfl⟩
 have hx1:Blk W1 X #[vv,va,vi] 91:=by rw [← hW1,← hX];exact Blk.new w _ _
 have hb1:Below w.heap.size w W1:=by rw [← hW1];exact (Below.refl _ w).alloc (Nat.le_refl _) _
 have H1:=zh (za hx1 (za hb1 (za (he.keep (keeps_below hb1)) (za (hl.keep (keeps_below hb1)) (za (hs.next hb1) (za hlt hv))))))
 have HE:=zh (za hW1 hX)
 obtain ⟨LL,hLL⟩:∃ n,l.length=n:=⟨_,rfl⟩
 have HLL:=zh hLL
 rw [hLL] at hll ⊢
 have HL:=zh hll
 clear hx1 hb1 hW1 hX he hl hs hlt hv hll hLL
 go_enter Tryz.func48,Tryz.ntmps48
 go_upto_region 1 with fail
 rw [HE.out.1,HE.out.2]
 go_wp2_with fail
 go_loopw [12] (fun x wr=>∃ i:Nat,x=.int .i64 i∧i≤LL∧Hid (takG es (l.take i) s=none)∧Below W1.heap.size W1 wr) (fun x _=>LL - (intOf x).toNat)
 case atStart=>exact ⟨0,rfl,by omega,zh (by simp [takG]),Below.refl _ _⟩
 case round =>
  obtain ⟨i,rfl,hi,hnone,hbr⟩:=hrel
  by_cases hlt:i<LL
  · have hbi:(i:Int)+1≤9223372036854775807:=by have:=HL.out;omega
    have hil:i<l.length:=by rw [HLL.out];exact hlt
    have hii:(i:Int)<(LL:Int):=by omega
    obtain ⟨g,rfl,hc⟩:=H1.out.2.2.2.1.resolve_left (by omega)
    have m0:=keeps_below hbr _ _ _ (hc i hil)
    have hj:=H1.out.2.2.2.2.2.1 l[i] (List.getElem_mem hil)
    obtain ⟨b,o,rfl,hcE⟩:=(H1.out.2.2.1.keep (keeps_below hbr)).row.resolve_left (by omega)
    obtain ⟨k0,k1,k2,k3,k4,k5,k6,k7,k8,k9⟩:=eds_at hcE l[i] hj
    have hvj:=H1.out.2.2.2.2.2.2 l[i] (List.getElem_mem hil)
    have hge:es.getD l[i] noE=es[l[i]]:=by rw [List.getD_eq_getElem?_getD,List.getElem?_eq_getElem hj,Option.getD_some]
    have hsn:=fun hn=>takG_snoc (es:=es) (s:=s) hil hnone.out hn
    have hht:=fun hn=>takG_hit (es:=es) (s:=s) hil hnone.out hn
    rw [hge] at hvj hsn hht
    obtain ⟨E,hE⟩:∃ E,es[l[i]]=E:=⟨_,rfl⟩
    rw [hE] at k0 k1 k2 k3 k4 k5 k6 k7 k8 k9 hvj hsn hht
    obtain ⟨J,hJ⟩:∃ j,l[i]=j:=⟨_,rfl⟩
    simp only [hJ] at m0 hj k0 k1 k2 k3 k4 k5 k6 k7 k8 k9 hht
    have hjj:(J:Int)<(es.length:Int):=by omega
    have HNX:=zh (za hsn hht)
    have HVJ:=zh hvj
    have HBR:=zh hbr
    clear hc hcE hge hsn hht hE hJ hvj hnone hbr
    go_upto_region 5 with fail
    obtain ⟨Y,hY⟩:∃ Y,wr.heap.size=Y:=⟨_,rfl⟩
    obtain ⟨W5,hW5⟩:∃ W,wr.alloc (.cells (edC E) 40)=W:=⟨_,rfl⟩
    have hy5:Blk W5 Y (edC E) 40:=by rw [← hW5,← hY];exact Blk.new wr _ _
    have hbr5:Below wr.heap.size wr W5:=by rw [← hW5];exact (Below.refl _ wr).alloc (Nat.le_refl _) _
    have hb5:Below W1.heap.size W1 W5:=HBR.out.trans (hbr5.mono HBR.out.size)
    have xc:=(H1.out.1.next hb5).cell
    have yc:=hy5.cell
    have H5:=zh (za (H1.out.1.next hb5) (za hy5 hb5))
    rw [hW5,hY]
    clear hy5 hbr5 hb5 hW5 hY k0 k1 k2 k3 k4 k5 k6 k7 k8 k9 m0
    obtain ⟨D,hD⟩:∃ d,hldE E s=d:=⟨_,rfl⟩
    go_cut [35] (fun s' wx=>s'=.bool D∧Below W1.heap.size W1 wx)
    case first =>
     by_cases hk:E.kd=12
     · have hd2:cmpB E.op (edVa E s) (edVb E s)=D:=by rw [← hD];unfold hldE;rw [hk];rfl
       have t1:(E.kd != 12)=false:=by rw [hk];rfl
       have HVa:=zh (fun W (hb:Below W5.heap.size W5 W)=>stvalue_any vv va vi s W (H1.out.2.2.2.2.1.next (H5.out.2.2.trans (hb.mono H5.out.2.2.size))).v E.av E.an (HVJ.out hk).1)
       have HVb:=zh (fun W (hb:Below W5.heap.size W5 W)=>stvalue_any vv va vi s W (H1.out.2.2.2.2.1.next (H5.out.2.2.trans (hb.mono H5.out.2.2.size))).v E.bv E.bn (HVJ.out hk).2)
       obtain ⟨A,hA⟩:∃ x,valO s E.av E.an=x:=⟨_,rfl⟩
       obtain ⟨B,hB⟩:∃ x,valO s E.bv E.bn=x:=⟨_,rfl⟩
       rw [hA] at HVa
       rw [hB] at HVb
       have hc2:=fun W=>ncmp_any E.op A B W
       rw [show cmpB E.op A B=D by rw [← hd2];unfold edVa edVb;rw [hA,hB]] at hc2
       have HC:=zh hc2
       have KS:=fun w' (hW:Below W5.heap.size W5 w')=>(⟨(H5.out.1.next hW).cell 0,(H5.out.1.next hW).cell 1,(H5.out.1.next hW).cell 2,(H5.out.2.1.next hW).cell 2,(H5.out.2.1.next hW).cell 5,(H5.out.2.1.next hW).cell 6,(H5.out.2.1.next hW).cell 7,(H5.out.2.1.next hW).cell 8,(H5.out.2.1.next hW).cell 9⟩:w'.cell? ⟨X,0,none⟩=some vv∧w'.cell? ⟨X,1,none⟩=some va∧w'.cell? ⟨X,2,none⟩=some vi∧w'.cell? ⟨Y,2,none⟩=some (.int .i64 E.kd)∧w'.cell? ⟨Y,5,none⟩=some (.int .i64 E.op)∧w'.cell? ⟨Y,6,none⟩=some (.int .i64 E.av)∧w'.cell? ⟨Y,7,none⟩=some (.int .i64 E.an)∧w'.cell? ⟨Y,8,none⟩=some (.int .i64 E.bv)∧w'.cell? ⟨Y,9,none⟩=some (.int .i64 E.bn))
       clear hd2 hc2 hA hB hk hD HVJ HNX
       go_region_held3 (fun w'=>w'.cell? ⟨X,0,none⟩=some vv∧w'.cell? ⟨X,1,none⟩=some va∧w'.cell? ⟨X,2,none⟩=some vi∧w'.cell? ⟨Y,2,none⟩=some (.int .i64 E.kd)∧w'.cell? ⟨Y,5,none⟩=some (.int .i64 E.op)∧w'.cell? ⟨Y,6,none⟩=some (.int .i64 E.av)∧w'.cell? ⟨Y,7,none⟩=some (.int .i64 E.an)∧w'.cell? ⟨Y,8,none⟩=some (.int .i64 E.bv)∧w'.cell? ⟨Y,9,none⟩=some (.int .i64 E.bn))
        ((with_reducible refine KS _ ?_;repeat (with_reducible (first | exact Below.refl _ _ | refine below_drew ?_ | refine below_next ?_ hb8 | refine below_next ?_ hb7 | refine below_next ?_ hb6 | fail))))
        (first | (go_at_call 100;(first | ((with_reducible refine (HVa.out _ (by repeat (with_reducible (first | exact Below.refl _ _ | refine below_drew ?_ | refine below_next ?_ hb7 | refine below_next ?_ hb6 | fail)))).mono ?_);rintro z w6 ⟨rfl,hb6⟩) | ((with_reducible refine (HVb.out _ (by repeat (with_reducible (first | exact Below.refl _ _ | refine below_drew ?_ | refine below_next ?_ hb7 | refine below_next ?_ hb6 | fail)))).mono ?_);rintro z w7 ⟨rfl,hb7⟩))) | (go_at_call 99;(with_reducible refine (HC.out _).mono ?_);rintro z w8 ⟨rfl,hb8⟩))
       all_goals (go_wp2_with fail;go_meet;exact ⟨by simp,H5.out.2.2.trans (Below.mono (by repeat (with_reducible (first | exact Below.refl _ _ | refine below_drew ?_ | refine below_next ?_ hb8 | refine below_next ?_ hb7 | refine below_next ?_ hb6 | fail)):Below W5.heap.size W5 _) H5.out.2.2.size)⟩)
     · have t1:(E.kd != 12)=true:=by simpa using hk
       have hd2:D=true:=by rw [← hD];unfold hldE;rw [t1];rfl
       subst hd2
       clear hk hD HVJ HNX
       go_quiet (fail)
       go_wp2_with fail
       go_meet
       exact ⟨rfl,H5.out.2.2.trans ((bel_drewN (Below.refl _ W5) _).mono H5.out.2.2.size)⟩
    case rest =>
     obtain ⟨rfl,hb⟩:=hcut
     clear xc yc
     cases D with
     | true =>
       have hres:takI es l s=(J:Int):=by unfold takI;rw [HNX.out.2 hD]
       have HRES:=zh hres
       clear hres hD
       go_wp2_with fail
       go_ret
       exact ⟨by rw [HRES.out];rfl,bel H1.out.2.1 hb⟩
     | false =>
       have HN2:=zh (HNX.out.1 hD)
       clear hD
       go_wp2_with fail
       go_roundw
       case rel=>exact ⟨i+1,by go_num,by omega,HN2,hb⟩
       case measure=>simp [intOf];omega
  · obtain rfl:LL=i:=by omega
    have hres:takI es l s = -1:=by
     have h:=hnone.out
     rw [← HLL.out,List.take_length] at h
     unfold takI
     rw [h]
    have HRES:=zh hres
    clear hres hnone
    go_wp2_with fail
    go_ret
    exact ⟨by rw [HRES.out];rfl,bel H1.out.2.1 hbr⟩
abbrev stdsA:Array Value:=#[.nilFunc,.func (.func 86) #[] #[],.func (.func 87) #[] #[],.func (.func 88) #[] #[],.func (.func 89) #[] #[],.func (.func 90) #[] #[],.func (.func 91) #[] #[],.func (.func 92) #[] #[],.func (.func 93) #[] #[],.func (.func 94) #[] #[],.func (.func 95) #[] #[],.func (.func 96) #[] #[],.func (.func 86) #[] #[],.func (.func 97) #[] #[],.func (.func 98) #[] #[]]
theorem stdeeds_any (w:World):Calls Tryz.prog 47 #[] w (fun z w'=>z=.returned (.agg stdsA)∧Below w.heap.size w w'):=by
 have hsf:=fun (a:Addr) (k:Nat) (w:World)=>run_store Tryz.prog w a (.func (.func k) #[] #[]) .plain rfl
 have hsn:=fun (a:Addr) (w:World)=>run_store Tryz.prog w a .nilFunc .plain rfl
 go_enter Tryz.func47,Tryz.ntmps47
 go_wp2_with fail
 refine bodyPost_ret (results_cell_row rfl _ _ w.heap.size _ stdsA _ _ rfl (heap_alloc_new w _) rfl rfl (by kernel_rfl)) rfl ?_
 exact ⟨rfl,(Below.refl w.heap.size w).alloc (Nat.le_refl _) _⟩
structure Ks where
 g:Gf
 M:Nat
 vb:Nat
 va:Value
 ar:Nat
 ab:List (Nat × Nat)
 L:Nat
 fa:Nat→Option Addr
 fc:Nat→Nat
 av:Option Addr
 aa:Option Addr
 ae:Option Addr
 cv:Nat
 ca:Nat
 ce:Nat
 H0:Nat
 B1:Nat
def Ks.nvt (K:Ks):Nat:=K.g.nv.toNat
def Ks.fix (K:Ks) (b:Nat):Prop:=b<K.B1∧b≠K.M∧b≠K.vb∧∀ x ∈ K.ab,b≠x.1
structure Ks.ok (K:Ks):Prop where
 m0:K.H0≤K.M
 v0:K.H0≤K.vb
 a0:∀ x ∈ K.ab,K.H0≤x.1
 b0:K.H0≤K.B1
 m1:K.M<K.B1
 v1:K.vb<K.B1
 a1:∀ x ∈ K.ab,x.1<K.B1
 mv:K.M≠K.vb
 ma:∀ x ∈ K.ab,K.M≠x.1
 va':∀ x ∈ K.ab,K.vb≠x.1
 aa:(K.ab.map (·.1)).Nodup
 ar:K.ab.length=0∨K.fix K.ar
 L:K.fix K.L
 fr:∀ p,p<K.g.n→(outL K.g.es p).length=0∨∃ b,K.fa p=some ⟨b,0,none⟩∧K.fix b
 rows:∃ a c,K.va=.slice a K.ab.length c∧(K.ab.length=0∨a=some ⟨K.ar,0,none⟩)
 eds:K.g.es.length=0∨∃ b o,K.ae=some ⟨b,o,none⟩∧K.fix b
 chk:chkG K.g=0
 na:K.ab.length=K.g.ar.length
 fit:∀ e ∈ K.g.es,fitsI e.an∧fitsI e.bn
 sz:∀ x ∈ K.ab,x.2≤1024
theorem Ks.fix_old {K:Ks} (hk:K.ok) {b:Nat} (h:b<K.H0):K.fix b:=⟨Nat.lt_of_lt_of_le h hk.b0,by have:=hk.m0;omega,by have:=hk.v0;omega,fun x hx=>by have:=hk.a0 x hx;omega⟩
structure Kp' (K:Ks) (w w':World):Prop where
 os:w'.os=w.os
 tape:w'.tape=w.tape
 output:w'.output=w.output
 size:w.heap.size≤w'.heap.size
 block:∀ b,b<w.heap.size→K.fix b→w'.heap[b]?=w.heap[b]?
theorem Kp'.trans {K:Ks} {a b c:World} (h:Kp' K a b) (k:Kp' K b c):Kp' K a c:=⟨k.os.trans h.os,k.tape.trans h.tape,k.output.trans h.output,Nat.le_trans h.size k.size,fun i hi hf=>(k.block i (Nat.lt_of_lt_of_le hi h.size) hf).trans (h.block i hi hf)⟩
theorem Kp'.below {K:Ks} {w w':World} (h:Below w.heap.size w w'):Kp' K w w':=⟨h.os,h.tape,h.output,h.size,fun k hk _=>h.block k hk⟩
theorem Kp'.only {K:Ks} {B:Nat} {w w':World} (h:Only B w w') (hB:¬ K.fix B):Kp' K w w':=⟨h.os,h.tape,h.output,h.size,fun k hk hf=>h.block k hk (fun e=>hB (e ▸ hf))⟩
theorem Kp'.old {K:Ks} (hk:K.ok) {w w':World} (h:Kp' K w w') (hs:K.H0≤w.heap.size):Below K.H0 w w':=⟨h.os,h.tape,h.output,h.size,fun k hlt=>h.block k (Nat.lt_of_lt_of_le hlt hs) (Ks.fix_old hk hlt)⟩
theorem Kp'.cell {K:Ks} {w w':World} (h:Kp' K w w') {b o:Nat} (hf:K.fix b) {u:Value} (hc:w.cell? ⟨b,o,none⟩=some u):w'.cell? ⟨b,o,none⟩=some u:=(World.cell?_of_block (w:=w) (a:=⟨b,o,none⟩) (h.block b (World.block_lt_of_cell? w ⟨b,o,none⟩ hc) hf)).trans hc
theorem nfix_M (K:Ks):¬ K.fix K.M:=fun h=>h.2.1 rfl
theorem nfix_v (K:Ks):¬ K.fix K.vb:=fun h=>h.2.2.1 rfl
theorem nfix_a {K:Ks} {x:Nat × Nat} (hx:x ∈ K.ab):¬ K.fix x.1:=fun h=>h.2.2.2 x hx rfl
abbrev machG (K:Ks) (p st wr:Int) (s:Rn) (sv ve:Value):Array Value:=#[.slice (some ⟨K.vb,0,none⟩) K.nvt K.nvt,K.va,sv,.slice K.av K.g.vs.length K.cv,.int .i64 K.g.tmp,.slice K.aa K.g.ar.length K.ca,.int .i64 K.g.pts,.int .i64 K.g.ext,.slice K.ae K.g.es.length K.ce,.slice (some ⟨K.L,0,none⟩) K.g.n K.g.n,.nilFunc,.func (.func 86) #[] #[],.func (.func 87) #[] #[],.func (.func 88) #[] #[],.func (.func 89) #[] #[],.func (.func 90) #[] #[],.func (.func 91) #[] #[],.func (.func 92) #[] #[],.func (.func 93) #[] #[],.func (.func 94) #[] #[],.func (.func 95) #[] #[],.func (.func 96) #[] #[],.func (.func 86) #[] #[],.func (.func 97) #[] #[],.func (.func 98) #[] #[],.int .i64 p,.int .i64 st,.int .i64 wr,.int .i64 s.steps,ve,.slice none 0 0,.slice none 0 0]
structure Mk (K:Ks) (w:World) (p:Nat) (st wr:Int) (s:Rn) (sv ve:Value):Prop where
 mach:Blk w K.M (machG K p st wr s sv ve) 97
 evs:w.ownsRow K.B1 100 3 ve s.evs.length (cellsV s.evs)
 left:IntsAt w K.H0 s.left sv
 vars:Blk w K.vb (intsV s.vars) 2
 rows:∀ i (h:i<K.ab.length),w.cell? ⟨K.ar,i,none⟩=some (rowV K.ab[i])
 arrs:∀ i (h:i<K.ab.length),Blk w K.ab[i].1 (intsV (s.arrs.getD i [])) 2
 frm:∀ q,q<K.g.n→w.cell? ⟨K.L,q,none⟩=some (.slice (K.fa q) (outL K.g.es q).length (K.fc q))∧NumsAt w (outL K.g.es q) (K.fa q)
 eds:EdsAt w K.g.es (.slice K.ae K.g.es.length K.ce)
 size:K.B1≤w.heap.size
 nv:s.vars.length=K.nvt
 na:s.arrs.length=K.ab.length
 sz:∀ i (h:i<K.ab.length),(s.arrs.getD i []).length=K.ab[i].2
 few:s.evs.length≤s.steps
 pt:p<K.g.n
 fv:∀ x ∈ s.vars,fitsI x
 fa:∀ l ∈ s.arrs,∀ x ∈ l,fitsI x
 fl:∀ x ∈ s.left,fitsI x
theorem nums_kp {K:Ks} {w w':World} (h:Kp' K w w') {l:List Nat} {a:Option Addr} (hn:NumsAt w l a) (hf:l.length=0∨∃ b,a=some ⟨b,0,none⟩∧K.fix b):NumsAt w' l a:=by
 rcases hn with hn | ⟨b,rfl,hc⟩
 · exact .inl hn
 · rcases hf with hf | ⟨b',e,hf⟩
   · exact .inl hf
   · cases e
     exact .inr ⟨b,rfl,fun i hi=>h.cell hf (hc i hi)⟩
theorem eds_kp {K:Ks} {w w':World} (hk:K.ok) (h:Kp' K w w') (he:EdsAt w K.g.es (.slice K.ae K.g.es.length K.ce)):EdsAt w' K.g.es (.slice K.ae K.g.es.length K.ce):=by
 obtain ⟨a,c,e,h1,h2,h3⟩:=he
 refine ⟨a,c,e,h1,h2,?_⟩
 rcases h3 with h3 | ⟨b,o,rfl,hc⟩
 · exact .inl h3
 · rcases hk.eds with hf | ⟨b',o',e',hf⟩
   · exact .inl hf
   · obtain ⟨h4,-,-⟩:=Value.slice.inj e
     rw [e'] at h4
     cases h4
     exact .inr ⟨_,_,rfl,fun i hi j u hu=>h.cell hf (hc i hi j u hu)⟩
theorem Mk.fixed {K:Ks} {w w':World} (hk:K.ok) {p:Nat} {st wr:Int} {s:Rn} {sv ve:Value} (h:Mk K w p st wr s sv ve) (hp:Kp' K w w') :
    (∀ i (h:i<K.ab.length),w'.cell? ⟨K.ar,i,none⟩=some (rowV K.ab[i]))∧(∀ q,q<K.g.n→w'.cell? ⟨K.L,q,none⟩=some (.slice (K.fa q) (outL K.g.es q).length (K.fc q))∧NumsAt w' (outL K.g.es q) (K.fa q))∧EdsAt w' K.g.es (.slice K.ae K.g.es.length K.ce)∧Below K.H0 w w' :=
 ⟨fun i hi=>hp.cell (hk.ar.resolve_left (by omega)) (h.rows i hi),fun q hq=>⟨hp.cell hk.L (h.frm q hq).1,nums_kp hp (h.frm q hq).2 (hk.fr q hq)⟩,eds_kp hk hp h.eds,hp.old hk (Nat.le_trans hk.b0 h.size)⟩
theorem Mk.next {K:Ks} {w w':World} (hk:K.ok) {p:Nat} {st wr:Int} {s:Rn} {sv ve:Value} (h:Mk K w p st wr s sv ve) (hb:Below w.heap.size w w'):Mk K w' p st wr s sv ve:=by
 obtain ⟨f1,f2,f3,f4⟩:=h.fixed hk (Kp'.below hb)
 exact { h with
  mach:=h.mach.next hb
  evs:=ownsRow_below h.evs hb
  left:=h.left.below f4
  vars:=h.vars.next hb
  rows:=f1
  arrs:=fun i hi=>(h.arrs i hi).next hb
  frm:=f2
  eds:=f3
  size:=Nat.le_trans h.size hb.size }
theorem Mk.setM {K:Ks} {w w':World} (hk:K.ok) {p p':Nat} {st wr st' wr':Int} {s s':Rn} {sv ve sv':Value} (h:Mk K w p st wr s sv ve) (ho:Only K.M w w') (hX:Blk w' K.M (machG K p' st' wr' s' sv' ve) 97) (hv:s'.vars=s.vars) (ha:s'.arrs=s.arrs) (he:s'.evs=s.evs) (hl:IntsAt w K.H0 s'.left sv') (hf:s'.evs.length≤s'.steps) (hpt:p' < K.g.n) (hfl:∀ x ∈ s'.left,fitsI x):Mk K w' p' st' wr' s' sv' ve:=by
 obtain ⟨f1,f2,f3,f4⟩:=h.fixed hk (Kp'.only ho (nfix_M K))
 exact
 { mach:=hX
   evs:=by rw [he];exact ownsRow_only h.evs ho hk.m1
   left:=hl.below f4
   vars:=by rw [hv];exact h.vars.only ho (fun e=>hk.mv e.symm)
   rows:=f1
   arrs:=fun i hi=>by rw [ha];exact (h.arrs i hi).only ho (fun e=>hk.ma _ (List.getElem_mem hi) e.symm)
   frm:=f2
   eds:=f3
   size:=Nat.le_trans h.size ho.size
   nv:=by rw [hv];exact h.nv
   na:=by rw [ha];exact h.na
   sz:=by rw [ha];exact h.sz
   few:=hf
   pt:=hpt
   fv:=by rw [hv];exact h.fv
   fa:=by rw [ha];exact h.fa
   fl:=hfl }
theorem Mk.setV {K:Ks} {w:World} (hk:K.ok) {p:Nat} {st wr:Int} {s:Rn} {sv ve:Value} (h:Mk K w p st wr s sv ve) (i:Nat) {v:Int} (hv:fitsI v):Mk K (w.setCell ⟨K.vb,i,none⟩ (.int .i64 v)) p st wr { s with vars:=s.vars.set i v } sv ve:=by
 have ho:Only K.vb w (w.setCell ⟨K.vb,i,none⟩ (.int .i64 v)):=(Only.refl K.vb w).setCell (p:=⟨K.vb,i,none⟩) rfl _
 obtain ⟨f1,f2,f3,f4⟩:=h.fixed hk (Kp'.only ho (nfix_v K))
 exact
 { mach:=h.mach.only ho hk.mv
   evs:=ownsRow_only h.evs ho hk.v1
   left:=h.left.below f4
   vars:=by have:=h.vars.set i (.int .i64 v);rwa [intsV_set] at this
   rows:=f1
   arrs:=fun i hi=>(h.arrs i hi).only ho (fun e=>hk.va' _ (List.getElem_mem hi) e.symm)
   frm:=f2
   eds:=f3
   size:=Nat.le_trans h.size ho.size
   nv:=by rw [List.length_set];exact h.nv
   na:=h.na
   sz:=h.sz
   few:=h.few
   pt:=h.pt
   fv:=fits_set h.fv i hv
   fa:=h.fa
   fl:=h.fl }
theorem Mk.setA {K:Ks} {w:World} (hk:K.ok) {p:Nat} {st wr:Int} {s:Rn} {sv ve:Value} (h:Mk K w p st wr s sv ve) (i:Nat) (hi:i<K.ab.length) (j:Nat) {v:Int} (hv:fitsI v):Mk K (w.setCell ⟨K.ab[i].1,j,none⟩ (.int .i64 v)) p st wr { s with arrs:=s.arrs.set i ((s.arrs.getD i []).set j v) } sv ve:=by
 have hm:=List.getElem_mem hi
 have ho:Only K.ab[i].1 w (w.setCell ⟨K.ab[i].1,j,none⟩ (.int .i64 v)):=(Only.refl K.ab[i].1 w).setCell (p:=⟨K.ab[i].1,j,none⟩) rfl _
 obtain ⟨f1,f2,f3,f4⟩:=h.fixed hk (Kp'.only ho (nfix_a hm))
 have hna:=h.na
 have hget:∀ k,(s.arrs.set i ((s.arrs.getD i []).set j v)).getD k []=if k=i then (s.arrs.getD i []).set j v else s.arrs.getD k []:=by
  intro k
  simp only [List.getD_eq_getElem?_getD,List.getElem?_set]
  by_cases hki:i=k
  · subst hki
    rw [if_pos rfl,if_pos (by omega),if_pos rfl]
    rfl
  · rw [if_neg hki,if_neg (fun e=>hki e.symm)]
 exact
 { mach:=h.mach.only ho (hk.ma _ hm)
   evs:=ownsRow_only h.evs ho (hk.a1 _ hm)
   left:=h.left.below f4
   vars:=h.vars.only ho (hk.va' _ hm)
   rows:=f1
   arrs:=fun k hkl=>by
    rw [hget]
    by_cases hki:k=i
    · subst hki
      rw [if_pos rfl]
      have:=(h.arrs k hkl).set j (.int .i64 v)
      rwa [intsV_set] at this
    · rw [if_neg hki]
      exact (h.arrs k hkl).only ho (nodup_ne hk.aa hkl hi hki)
   frm:=f2
   eds:=f3
   size:=Nat.le_trans h.size ho.size
   nv:=h.nv
   na:=by rw [List.length_set];exact h.na
   sz:=fun k hkl=>by
    rw [hget]
    by_cases hki:k=i
    · subst hki
      rw [if_pos rfl,List.length_set]
      exact h.sz k hkl
    · rw [if_neg hki]
      exact h.sz k hkl
   few:=h.few
   pt:=h.pt
   fv:=h.fv
   fa:=by
    intro l hl
    rcases List.mem_or_eq_of_mem_set hl with h1 | rfl
    · exact h.fa l h1
    · refine fits_set ?_ j hv
      intro x hx
      rw [List.getD_eq_getElem?_getD,List.getElem?_eq_getElem (by omega)] at hx
      exact h.fa _ (List.getElem_mem _) x hx
   fl:=h.fl }
theorem Mk.turn {K:Ks} {w w':World} (hk:K.ok) {p:Nat} {st wr:Int} {s s':Rn} {sv ve ve':Value} (h:Mk K w p st wr s sv ve) (hb:Below K.B1 w w') (he:w'.ownsRow K.B1 100 3 ve' s'.evs.length (cellsV s'.evs)) (hv:s'.vars=s.vars) (ha:s'.arrs=s.arrs) (hl:s'.left=s.left) (hs:s'.steps=s.steps) (hf:s'.evs.length≤s'.steps):Mk K (w'.setCell ⟨K.M,29,none⟩ ve') p st wr s' sv ve':=by
 have ho:Only K.M w' (w'.setCell ⟨K.M,29,none⟩ ve'):=(Only.refl K.M w').setCell (p:=⟨K.M,29,none⟩) rfl _
 have hX:Blk w' K.M (machG K p st wr s sv ve) 97:=h.mach.below hb hk.m1
 have hX2:=hX.set 29 ve'
 have e2:(machG K p st wr s sv ve).setIfInBounds 29 ve'=machG K p st wr s' sv ve':=by unfold machG;rw [hs];rfl
 rw [e2] at hX2
 have hkp:Kp' K w (w'.setCell ⟨K.M,29,none⟩ ve'):=Kp'.trans ⟨hb.os,hb.tape,hb.output,hb.size,fun b hlt hf=>hb.block b hf.1⟩ (Kp'.only ho (nfix_M K))
 obtain ⟨f1,f2,f3,f4⟩:=h.fixed hk hkp
 exact
 { mach:=hX2
   evs:=ownsRow_only he ho hk.m1
   left:=by rw [hl];exact h.left.below f4
   vars:=by rw [hv];exact (h.vars.below hb hk.v1).only ho (fun e=>hk.mv e.symm)
   rows:=f1
   arrs:=fun i hi=>by rw [ha];exact ((h.arrs i hi).below hb (hk.a1 _ (List.getElem_mem hi))).only ho (fun e=>hk.ma _ (List.getElem_mem hi) e.symm)
   frm:=f2
   eds:=f3
   size:=Nat.le_trans h.size (Nat.le_trans hb.size ho.size)
   nv:=by rw [hv];exact h.nv
   na:=by rw [ha];exact h.na
   sz:=by rw [ha];exact h.sz
   few:=hf
   pt:=h.pt
   fv:=by rw [hv];exact h.fv
   fa:=by rw [ha];exact h.fa
   fl:=by rw [hl];exact h.fl }
theorem frm_right {g:Gf} (h:frm g=true):rightG g=true:=by
 unfold frm at h
 simp only [Bool.and_eq_true] at h
 exact h.1.2
theorem len_n {K:Ks} (hk:K.ok):(K.g.n:Int)=K.g.pts∧1≤K.g.n∧K.g.n≤4096∧K.g.es.length≤8192∧0≤K.g.tmp∧K.g.nv≤64∧(K.nvt:Int)=K.g.nv:=by
 obtain ⟨q0,qf⟩:=chk_zero hk.chk
 obtain ⟨q1,q2,q3,q4,q5⟩:=out_zero q0
 have h:(K.g.n:Int)=K.g.pts:=by unfold Gf.n;omega
 refine ⟨h,by omega,by omega,by omega,q1,by unfold Gf.nv;omega,?_⟩
 unfold Ks.nvt Gf.nv
 omega
theorem ed_at {K:Ks} (hk:K.ok) {e:Ed} (he:e ∈ K.g.es):edR K.g.nv (K.g.ar.length:Int) K.g.pts K.g.ext e=true:=by
 obtain ⟨q0,qf⟩:=chk_zero hk.chk
 have h:=frm_right qf
 unfold rightG at h
 exact List.all_eq_true.1 h e he
theorem kd_at {K:Ks} (hk:K.ok) {e:Ed} (he:e ∈ K.g.es):1≤e.kd∧e.kd≤14:=by
 have h:=ed_at hk he
 unfold edR kdR at h
 simp only [Bool.and_eq_true,decide_eq_true_eq] at h
 exact h.1
theorem dt_at {K:Ks} (hk:K.ok) {e:Ed} (he:e ∈ K.g.es):0≤e.dt∧e.dt<K.g.pts:=by
 have h:=ed_at hk he
 unfold edR endR at h
 simp only [Bool.and_eq_true] at h
 exact amg_true h.2.1.1.1.1.2
theorem opd_or {has:Bool} {v m n:Int} (h:opd has v m n=true) (hh:has=true):v<0∨v<n:=by
 subst hh
 unfold opd amg at h
 simp only [if_true,Bool.or_eq_true,Bool.and_eq_true,decide_eq_true_eq,beq_iff_eq] at h
 omega
theorem edV_at {K:Ks} (hk:K.ok) {w:World} {p:Nat} {st wr:Int} {s:Rn} {sv ve:Value} (h:Mk K w p st wr s sv ve) {e:Ed} (he:e ∈ K.g.es):EdV s e:=by
 have hr:=ed_at hk he
 have hkd:=kd_at hk he
 have hn:=len_n hk
 have hnv:(s.vars.length:Int)=K.g.nv:=by rw [h.nv];exact hn.2.2.2.2.2.2
 have hna:(s.arrs.length:Int)=(K.g.ar.length:Int):=by rw [h.na,hk.na]
 unfold edR namR at hr
 simp only [Bool.and_eq_true] at hr
 obtain ⟨-,⟨⟨-,⟨⟨h1,h2⟩,h3⟩⟩,h4⟩,h5⟩:=hr
 refine ⟨hkd,fun hd=>?_,fun ha=>?_,fun ha=>?_,fun hb=>?_,(hk.fit e he).1,(hk.fit e he).2⟩
 · unfold plc at h1
   rw [show kDst e.kd=true by simp [kDst,hd],if_pos rfl] at h1
   have:=amg_true h1
   omega
 · unfold plc at h2
   rw [show kArr e.kd=true by simp [kArr,ha],if_pos rfl] at h2
   have:=amg_true h2
   omega
 · have:=opd_or h4 (by unfold kA;exact decide_eq_true ha)
   omega
 · have:=opd_or h5 (by unfold kB;exact decide_eq_true hb)
   omega
theorem LgAt.ints {w:World} {H:Nat} {l:List Int} {v:Value} (h:IntsAt w H l v):LgAt w l v:=by
 obtain ⟨a,c,h1,-,-,h4⟩:=h
 exact ⟨a,c,h1,h4.imp id fun ⟨b,o,h5,_,h6⟩=>⟨b,o,h5,h6⟩⟩
theorem LgAt.blk {w:World} {b:Nat} {l:List Int} {c:Nat} (h:Blk w b (intsV l) 2):LgAt w l (.slice (some ⟨b,0,none⟩) l.length c) :=
 ⟨_,c,rfl,.inr ⟨b,0,rfl,fun i hi=>by
  have h1:=h.cell i
  rw [intsV_at l i hi,List.getD_eq_getElem?_getD,List.getElem?_eq_getElem hi,Option.getD_some] at h1
  rw [Nat.zero_add]
  exact h1⟩⟩
theorem Mk.vs {K:Ks} (hk:K.ok) {w:World} {p:Nat} {st wr:Int} {s:Rn} {sv ve:Value} (h:Mk K w p st wr s sv ve):VsAt w s (.slice (some ⟨K.vb,0,none⟩) K.nvt K.nvt) K.va sv:=by
 have hn:=len_n hk
 refine ⟨(by rw [← h.nv];exact LgAt.blk h.vars),?_,LgAt.ints h.left,(by rw [h.nv];unfold maxLen;omega),?_,?_,h.fv,h.fa,h.fl⟩
 · obtain ⟨a,c,e,h2⟩:=hk.rows
   refine ⟨a,c,by rw [e,h.na],?_⟩
   rcases h2 with h2 | h2
   · exact .inl (by rw [h.na];exact h2)
   · refine .inr ⟨K.ar,0,h2,fun i hi=>⟨rowV (K.ab[i]'(by rw [← h.na];exact hi)),?_,?_⟩⟩
     · rw [Nat.zero_add]
       exact h.rows i (by rw [← h.na];exact hi)
     · have hi2:i<K.ab.length:=by rw [← h.na];exact hi
       have hb:=h.arrs i hi2
       have hsz:=h.sz i hi2
       have hg:s.arrs.getD i []=s.arrs[i]:=by rw [List.getD_eq_getElem?_getD,List.getElem?_eq_getElem hi,Option.getD_some]
       rw [hg] at hb hsz
       unfold rowV
       rw [← hsz]
       exact LgAt.blk hb
 · obtain ⟨q0,qf⟩:=chk_zero hk.chk
   rw [h.na,hk.na]
   unfold Go.Proofs.YtmohmggnjldddaaGreatDoor.frm sizedG at qf
   simp only [Bool.and_eq_true,decide_eq_true_eq] at qf
   have:=qf.1.1.1.1
   unfold maxLen
   omega
 · intro l hl
   obtain ⟨i,hi,rfl⟩:=List.mem_iff_getElem.1 hl
   have hi2:i<K.ab.length:=by rw [← h.na];exact hi
   have hsz:=h.sz i hi2
   rw [show s.arrs.getD i []=s.arrs[i] by rw [List.getD_eq_getElem?_getD,List.getElem?_eq_getElem hi,Option.getD_some]] at hsz
   rw [hsz]
   have:=hk.sz _ (List.getElem_mem hi2)
   unfold maxLen
   omega
inductive Cls (U:Nat→Value) (vv:Value) (e:Ed) (s:Rn):Prop where
 | nop (h:ddOf U vv e s=ddV 0 none 0 false false 0 false) (d:doE e (tick s)=(0,tick s))
 | put (num:Int) (h:ddOf U vv e s=ddV 0 (plcA vv e.dst.toNat) num false false 0 false) (d:doE e (tick s)=(0,putS (tick s) e.dst num)) (f:fitsI num) (r:0≤e.dst∧e.dst<s.vars.length)
 | bad (wr:Int) (hw:wr≠0) (h:ddOf U vv e s=ddV wr none 0 false false 0 false) (d:doE e (tick s)=(wr,tick s))
 | inp (v:Int) (l:List Int) (hl:s.left=v :: l) (h:ddOf U vv e s=ddV 0 (plcA vv e.dst.toNat) v true true v false) (d:doE e (tick s)=(0,putS (inS (tick s)) e.dst v)) (r:0≤e.dst∧e.dst<s.vars.length)
 | sto (a i:Nat) (num:Int) (ha:a<s.arrs.length) (hi:i<(s.arrs.getD a []).length) (h:ddOf U vv e s=ddV 0 (plcA (U a) i) num false false 0 false) (d:doE e (tick s)=(0,{ tick s with arrs:=s.arrs.set a ((s.arrs.getD a []).set i num) })) (f:fitsI num)
 | pass (h:ddOf U vv e s=ddV 0 none 0 true false 0 true) (d:doE e (tick s)=(0,noteR false 0 true (tick s)))
 | fail (h:ddOf U vv e s=ddV 4 none 0 true false 0 false) (d:doE e (tick s)=(4,noteR false 0 false (tick s)))
theorem numT_fit (x:Int):fitsI (numT x).1:=by
 unfold numT
 split
 · assumption
 · decide
theorem numK_fit {k a b:Int} (ha:fitsI a):fitsI (numK k a b).1:=by
 unfold numK
 split;· exact numT_fit _
 split;· exact numT_fit _
 split;· exact numT_fit _
 split;· exact numT_fit _
 split
 · split
   · decide
   · exact numT_fit _
 · split
   · decide
   · split
     · decide
     · have:=tmod_facts a b
       unfold fitsI at ha ⊢
       simp only
       omega
theorem cls_of {U:Nat→Value} {vv:Value} {e:Ed} {s:Rn} (he:EdV s e) (hv:∀ x ∈ s.vars,fitsI x) (ha:∀ l ∈ s.arrs,∀ x ∈ l,fitsI x) (hl:e.kd=9→s.left≠[]):Cls U vv e s:=by
 have hkd:=he.kd
 have hc:e.kd=1∨e.kd=12∨e.kd=2∨(3≤e.kd∧e.kd≤8)∨e.kd=9∨e.kd=10∨e.kd=11∨e.kd=13∨e.kd=14:=by omega
 have eA:edVa e (tick s)=edVa e s:=rfl
 have eB:edVb e (tick s)=edVb e s:=rfl
 rcases hc with h | h | h | h | h | h | h | h | h
 · exact .nop (by unfold ddOf;rw [if_neg (by omega),if_neg (by omega),if_neg (by omega),if_neg (by omega),if_neg (by omega),if_neg (by omega),if_neg (by omega)]) (by unfold doE;rw [if_neg (by omega),if_neg (by omega),if_neg (by omega),if_neg (by omega),if_neg (by omega),if_neg (by omega),if_neg (by omega)])
 · exact .nop (by unfold ddOf;rw [if_neg (by omega),if_neg (by omega),if_neg (by omega),if_neg (by omega),if_neg (by omega),if_neg (by omega),if_neg (by omega)]) (by unfold doE;rw [if_neg (by omega),if_neg (by omega),if_neg (by omega),if_neg (by omega),if_neg (by omega),if_neg (by omega),if_neg (by omega)])
 · exact .put (edVa e s) (by unfold ddOf;rw [if_pos h]) (by unfold doE;rw [if_pos h,eA]) (valO_fits hv he.fa) (he.dst (by omega))
 · by_cases hz:(numK (e.kd+2) (edVa e s) (edVb e s)).2=0
   · exact .put (numK (e.kd+2) (edVa e s) (edVb e s)).1 (by rw [dd_num h,if_pos hz]) (by unfold doE;rw [if_neg (by omega),if_pos h,eA,eB,if_pos hz]) (numK_fit (valO_fits hv he.fa)) (he.dst (by omega))
   · exact .bad _ hz (by rw [dd_num h,if_neg hz]) (by unfold doE;rw [if_neg (by omega),if_pos h,eA,eB,if_neg hz])
 · cases hq:s.left with
   | nil=>exact absurd hq (hl h)
   | cons v l=>exact .inp v l hq (by unfold ddOf;rw [if_neg (by omega),if_neg (by omega),if_pos h,hq];rfl) (by unfold doE;rw [if_neg (by omega),if_neg (by omega),if_pos h,show (tick s).left=v :: l from hq];rfl) (he.dst (by omega))
 · by_cases hb:edVa e s<0∨((arrO s e.arr).length:Int)≤edVa e s
   · exact .bad 3 (by decide) (by unfold ddOf;rw [if_neg (by omega),if_neg (by omega),if_neg (by omega),if_pos h,if_pos hb]) (by unfold doE;rw [if_neg (by omega),if_neg (by omega),if_neg (by omega),if_pos h,eA,show arrO (tick s) e.arr=arrO s e.arr from rfl,if_pos hb])
   · refine .put _ (by unfold ddOf;rw [if_neg (by omega),if_neg (by omega),if_neg (by omega),if_pos h,if_neg hb]) (by unfold doE;rw [if_neg (by omega),if_neg (by omega),if_neg (by omega),if_pos h,eA,show arrO (tick s) e.arr=arrO s e.arr from rfl,if_neg hb]) ?_ (he.dst (by omega))
     unfold arrO at hb ⊢
     rw [List.getD_eq_getElem?_getD]
     cases hi:(s.arrs.getD e.arr.toNat [])[(edVa e s).toNat]? with
     | none=>decide
     | some x =>
       have hm:=List.mem_of_getElem? hi
       rw [List.getD_eq_getElem?_getD] at hm
       cases hj:s.arrs[e.arr.toNat]? with
       | none=>rw [hj] at hm;cases hm
       | some l=>rw [hj] at hm;exact ha l (List.mem_of_getElem? hj) x hm
 · by_cases hb:edVa e s<0∨((arrO s e.arr).length:Int)≤edVa e s
   · exact .bad 3 (by decide) (by unfold ddOf;rw [if_neg (by omega),if_neg (by omega),if_neg (by omega),if_neg (by omega),if_pos h,if_pos hb]) (by unfold doE;rw [if_neg (by omega),if_neg (by omega),if_neg (by omega),if_neg (by omega),if_pos h,eA,show arrO (tick s) e.arr=arrO s e.arr from rfl,if_pos hb])
   · have hr:=he.arr (.inr h)
     refine .sto e.arr.toNat (edVa e s).toNat (edVb e s) (by omega) (by unfold arrO at hb;omega) (by unfold ddOf;rw [if_neg (by omega),if_neg (by omega),if_neg (by omega),if_neg (by omega),if_pos h,if_neg hb]) (by unfold doE;rw [if_neg (by omega),if_neg (by omega),if_neg (by omega),if_neg (by omega),if_pos h,eA,eB,show arrO (tick s) e.arr=arrO s e.arr from rfl,if_neg hb];rfl) (valO_fits hv he.fb)
 · exact .pass (by unfold ddOf;rw [if_neg (by omega),if_neg (by omega),if_neg (by omega),if_neg (by omega),if_neg (by omega),if_pos h]) (by unfold doE;rw [if_neg (by omega),if_neg (by omega),if_neg (by omega),if_neg (by omega),if_neg (by omega),if_pos h])
 · exact .fail (by unfold ddOf;rw [if_neg (by omega),if_neg (by omega),if_neg (by omega),if_neg (by omega),if_neg (by omega),if_neg (by omega),if_pos h]) (by unfold doE;rw [if_neg (by omega),if_neg (by omega),if_neg (by omega),if_neg (by omega),if_neg (by omega),if_neg (by omega),if_pos h])
end Go.Proofs.YtmohmggnjldddaaGreatDoor
