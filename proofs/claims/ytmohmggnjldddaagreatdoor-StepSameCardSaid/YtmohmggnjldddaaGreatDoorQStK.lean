/-
  Package step's newMachine: proved is that it makes a machine that stands as a plain run begins.
-/
import Derived.Test.YtmohmggnjldddaaGreatDoorQStJ
import Derived.Test.YtmohmggnjldddaaGreatDoorQOnO
import Derived.Test.YtmohmggnjldddaaGreatDoorQGsD
import Derived.Test.YtmohmggnjldddaaGreatDoorQRegM
import Derived.Deep.RegionLaw
import Derived.Deep.AppendLies
import Derived.Test.YtmohmggnjldddaaGreatDoorQAbb
namespace Go.Proofs.YtmohmggnjldddaaGreatDoor
set_option maxHeartbeats 8000000
set_option maxRecDepth 100000
open Go Go.RowKit Go.Maps
def srunF (g:Gf) (sc:List Int) (k:Int):Int:=if chkG g≠0 then chkG g else if k<0∨65536<k∨65536<sc.length then 80 else 0
def srunG (g:Gf) (sc:List Int) (k:Int):Gx:=finG k.toNat g.es 0 (startG g sc)
def srunO (g:Gf) (sc:List Int) (k:Int):Int × Int × Rn:=((srunG g sc k).1,(srunG g sc k).2.1,{ (srunG g sc k).2.2.2 with vars:=(srunG g sc k).2.2.2.vars.take g.vs.length })
def SRunTo (w:World) (g:Gf) (sc:List Int) (k:Int):Ending→World→Prop:=fun e w'=>∃ u q,e=.returned (.tuple #[u,.int .i64 q,.int .i64 (srunF g sc k)])∧Below w.heap.size w w'∧(srunF g sc k=0→OutIn w' w.heap.size (srunO g sc k) u∧q=(srunG g sc k).2.2.1)∧(srunF g sc k≠0→u=zeroO∧q=0)
theorem Mk.out {K:Ks} (hk:K.ok) {w w':World} {p:Nat} {st wr:Int} {s:Rn} {sv ve:Value} (h:Mk K w p st wr s sv ve) (hst:s.steps≤65536) (hr0:K.ab.length=0∨K.H0≤K.ar) (hva:∃ a c,K.va=.slice a K.ab.length c∧K.ab.length≤c∧c≤maxLen) (hb:Below w.heap.size w w') {d cc:Nat} (hd:w.heap.size≤d) (h1:K.g.vs.length≤cc) (h2:cc≤maxLen) (hc:∀ i,i<K.g.vs.length→w'.cell? ⟨d,i,none⟩=some (.int .i64 ((s.vars.take K.g.vs.length).getD i 0))) :
    OutIn w' K.H0 (st,wr,{ s with vars:=s.vars.take K.g.vs.length }) (.agg #[.int .i64 st,.int .i64 wr,.int .i64 s.steps,ve,.slice (some ⟨d,0,none⟩) K.g.vs.length cc,K.va]):=by
 have hnn:=len_n hk
 have hH:K.H0≤w.heap.size:=Nat.le_trans hk.b0 h.size
 have hkb:=keeps_below hb
 have hvl:K.g.vs.length≤s.vars.length∧s.vars.length≤1024:=by
  have h1:=h.nv
  have h2:K.g.nv=(K.g.vs.length:Int)+K.g.tmp:=rfl
  omega
 have hTl:(s.vars.take K.g.vs.length).length=K.g.vs.length:=by rw [List.length_take];omega
 have hnA:K.ab.length≤16:=by
  obtain ⟨q0,qf⟩:=chk_zero hk.chk
  rw [hk.na]
  unfold Go.Proofs.YtmohmggnjldddaaGreatDoor.frm sizedG at qf
  simp only [Bool.and_eq_true,decide_eq_true_eq] at qf
  exact qf.1.1.1.1
 refine ⟨ve,_,K.va,rfl,?_,?_,?_,hst,h.few,by show (s.vars.take K.g.vs.length).length≤1024;omega,by show s.arrs.length≤1024;rw [h.na];omega⟩
 · rcases h.evs.2 with ⟨rfl,h0⟩ | ⟨g,cap,cur,hva,hg,hh,hn,hm,hcs,ht⟩
   · exact ⟨none,0,by rw [h0],by show s.evs.length≤0;omega,Nat.zero_le _,.inl h0⟩
   · refine ⟨some ⟨g,0,none⟩,cap,hva,hn,hm,?_⟩
     by_cases h0:s.evs.length=0
     · exact .inl h0
     · refine .inr ⟨g,rfl,Nat.le_trans hk.b0 hg,fun j u hj=>?_⟩
       have h1:=h.evs.cells (g:=g) (by rw [hva];rfl) j u hj
       have h2:w.cell? ⟨g,j,none⟩=some u:=by simpa [add_none] using h1
       exact hkb _ _ _ h2
 · refine ⟨d,cc,by rw [hTl],by show (s.vars.take K.g.vs.length).length≤cc;omega,h2,Nat.le_trans hH hd,fun i hi=>?_⟩
   have hi':i<(s.vars.take K.g.vs.length).length:=hi
   have h3:=hc i (by omega)
   rw [List.getD_eq_getElem?_getD,List.getElem?_eq_getElem hi',Option.getD_some] at h3
   exact h3
 · obtain ⟨a,c,hva,hlc,hcm⟩:=hva
   refine ⟨a,c,by rw [hva];show _=Value.slice a s.arrs.length c;rw [h.na],by show s.arrs.length≤c;rw [h.na];exact hlc,hcm,?_⟩
   by_cases h0:s.arrs.length=0
   · exact .inl h0
   · have hab0:¬ K.ab.length=0:=by rw [← h.na];exact h0
     obtain ⟨a2,c2,e2,e3⟩:=hk.rows
     have ea:a=some ⟨K.ar,0,none⟩:=by
      rw [hva] at e2
      obtain ⟨e4,-,-⟩:=Value.slice.inj e2
      rw [e4]
      exact e3.resolve_left hab0
     refine .inr ⟨K.ar,ea,hr0.resolve_left hab0,fun i hi=>?_⟩
     have hi2:i<K.ab.length:=by rw [← h.na];exact hi
     have hi3:i<s.arrs.length:=hi
     have hz:=h.sz i hi2
     rw [List.getD_eq_getElem?_getD,List.getElem?_eq_getElem hi3,Option.getD_some] at hz
     refine ⟨_,hkb _ _ _ (h.rows i hi2),K.ab[i].1,K.ab[i].2,?_,?_,?_,hk.a0 _ (List.getElem_mem hi2),?_⟩
     · show rowV _=.slice _ (s.arrs[i]).length _
       rw [hz]
       rfl
     · show (s.arrs[i]).length≤_
       omega
     · have:=hk.sz _ (List.getElem_mem hi2);unfold maxLen;omega
     · intro j hj
       have hb:=h.arrs i hi2
       rw [List.getD_eq_getElem?_getD,List.getElem?_eq_getElem hi3,Option.getD_some] at hb
       have hj:j<(s.arrs[i]).length:=hj
       refine hkb _ _ _ ?_
       rw [hb.cell,intsV_at _ _ hj,List.getD_eq_getElem?_getD,List.getElem?_eq_getElem hj]
       rfl
theorem fin_steps (most:Nat) (es:List Ed):∀ (n:Nat) (p:Int) (s:Rn),s.steps≤most→(runG most es n p s).2.2.2.steps≤most
 | 0,_,_,h=>h
 | n+1,p,s,h=>by
   unfold runG
   cases hs:stepG most es p s with
   | inl x =>
     obtain ⟨q,s'⟩:=x
     obtain ⟨h1,h2⟩:=step_inl hs
     exact fin_steps most es n q s' (by omega)
   | inr r =>
     show r.2.2.2.steps≤most
     unfold stepG at hs
     split at hs
     · cases hs;exact h
     · split at hs
       · cases hs;exact h
       · split at hs
         · cases hs;exact h
         · rename_i hm
           split at hs
           · cases hs
           · cases hs
             show (doE _ (tick s)).2.steps≤most
             rw [do_steps]
             show s.steps+1≤most
             omega
theorem fr_at {g:Gf} (hc:chkG g=0) {e:Ed} (he:e ∈ g.es):0≤e.fr∧e.fr<g.pts:=by
 obtain ⟨q0,qf⟩:=chk_zero hc
 have h:=frm_right qf
 unfold rightG at h
 have h:=List.all_eq_true.1 h e he
 unfold edR endR at h
 simp only [Bool.and_eq_true] at h
 exact amg_true h.2.1.1.1.1.1
def Jk (W:World) (ob:Obj) (A:Addr) (PA:Value→World→Prop) (l:Array Bool) (r:Value) (w':World):Prop :=
 (l.getD 16 false=false∧l.getD 18 false=false∧w'=if l.getD 15 false=true then W.alloc ob else W)∨(l.getD 16 false=true∧l.getD 13 false=true∧l.getD 15 false=true∧l.getD 18 false=false∧PA r w')∨(l.getD 18 false=true∧l.getD 16 false=true∧l.getD 13 false=true∧l.getD 15 false=true∧∃ w0,PA r w0∧w'=w0.setCell A r)
theorem Jk.set {W:World} {ob:Obj} {A:Addr} {PA:Value→World→Prop} {l:Array Bool} {r:Value} {w':World} (h:Jk W ob A PA l r w') {i:Nat} (h1:i≠15) (h2:i≠16) (h3:i≠18):Jk W ob A PA (l.setIfInBounds i true) r w':=by
 rcases h with ⟨a,b,c⟩ | ⟨a,b,c,d,e⟩ | ⟨a,b,c,d,e⟩
 · exact .inl ⟨by rw [getD_set_ne false h2];exact a,by rw [getD_set_ne false h3];exact b,by rw [getD_set_ne false h1];exact c⟩
 · exact .inr (.inl ⟨getD_set_true a,getD_set_true b,getD_set_true c,by rw [getD_set_ne false h3];exact d,e⟩)
 · exact .inr (.inr ⟨getD_set_true a,getD_set_true b,getD_set_true c,getD_set_true d,e⟩)
theorem Jk.first {W:World} {ob:Obj} {A:Addr} {PA:Value→World→Prop} {l:Array Bool} {r:Value} {w':World} (h:Jk W ob A PA l r w') (h1:l.getD 15 false=false∨l.getD 16 false=false):l.getD 16 false=false∧l.getD 18 false=false∧w'=if l.getD 15 false=true then W.alloc ob else W:=by
 rcases h with h | ⟨a,-,c,-,-⟩ | ⟨-,a,-,c,-⟩
 · exact h
 · rw [a,c] at h1;simp at h1
 · rw [a,c] at h1;simp at h1
theorem Jk.row {W:World} {ob:Obj} {A:Addr} {PA:Value→World→Prop} {l:Array Bool} {r:Value} {w':World} (h:Jk W ob A PA l r w') (h1:l.getD 13 false=false):w'=W.alloc ob∨w'=W:=by
 rcases h with ⟨-,-,c⟩ | ⟨-,a,-⟩ | ⟨-,-,a,-⟩
 · by_cases hb:l.getD 15 false=true
   · rw [if_pos hb] at c;exact .inl c
   · rw [if_neg hb] at c;exact .inr c
 · rw [a] at h1;cases h1
 · rw [a] at h1;cases h1
theorem Jk.second {W:World} {ob:Obj} {A:Addr} {PA:Value→World→Prop} {l:Array Bool} {r:Value} {w':World} (h:Jk W ob A PA l r w') (h1:l.getD 16 false=true) (h2:l.getD 18 false=false):PA r w':=by
 rcases h with ⟨a,-,-⟩ | ⟨-,-,-,-,e⟩ | ⟨a,-⟩
 · rw [a] at h1;cases h1
 · exact e
 · rw [a] at h2;cases h2
theorem Jk.third {W:World} {ob:Obj} {A:Addr} {PA:Value→World→Prop} {l:Array Bool} {r:Value} {w':World} (h:Jk W ob A PA l r w') (h2:l.getD 18 false=true):∃ w0,PA r w0∧w'=w0.setCell A r:=by
 rcases h with ⟨-,a,-⟩ | ⟨-,-,-,a,-⟩ | ⟨-,-,-,-,e⟩
 · rw [a] at h2;cases h2
 · rw [a] at h2;cases h2
 · exact e
theorem Jk.cell {W:World} {ob:Obj} {A:Addr} {PA:Value→World→Prop} {l:Array Bool} {r:Value} {w':World} (h:Jk W ob A PA l r w') {k o:Nat} {u:Value} (hk:k<W.heap.size) (hA:k≠A.block) (hP:∀ r w0,PA r w0→w0.heap[k]?=W.heap[k]?) (hc:W.cell? ⟨k,o,none⟩=some u):w'.cell? ⟨k,o,none⟩=some u:=by
 have hb:w'.heap[k]?=W.heap[k]?:=by
  rcases h with ⟨-,-,c⟩ | ⟨-,-,-,-,e⟩ | ⟨-,-,-,-,w0,e,f⟩
  · rw [c]
    split
    · exact ((Below.refl W.heap.size W).alloc (Nat.le_refl _) ob).block k hk
    · rfl
  · exact hP _ _ e
  · rw [f,← hP _ _ e]
    exact ((Only.refl A.block w0).setCell (p:=A) rfl r).block k (by
     rcases Nat.lt_or_ge k w0.heap.size with h | h
     · exact h
     · have:=hP _ _ e
       rw [Array.getElem?_eq_none h,Array.getElem?_eq_getElem hk] at this
       cases this) hA
 exact (World.cell?_of_block (w:=W) (a:=⟨k,o,none⟩) hb).trans hc
theorem vs_k {p0 p1 p2 p3 p4 p5 p6 p7 p8 p9 p10 p11 p12 p13 p14 p15 p17 p18:Value} (R R':Value) (j:Nat) (h:j≠16):valsAt [p0,p1,p2,p3,p4,p5,p6,p7,p8,p9,p10,p11,p12,p13,p14,p15,R,p17,p18] j=valsAt [p0,p1,p2,p3,p4,p5,p6,p7,p8,p9,p10,p11,p12,p13,p14,p15,R',p17,p18] j:=by
 by_cases h1:j<16
 · have hc:j=0∨j=1∨j=2∨j=3∨j=4∨j=5∨j=6∨j=7∨j=8∨j=9∨j=10∨j=11∨j=12∨j=13∨j=14∨j=15:=by omega
   rcases hc with rfl | rfl | rfl | rfl | rfl | rfl | rfl | rfl | rfl | rfl | rfl | rfl | rfl | rfl | rfl | rfl<;>rfl
 · obtain ⟨k,rfl⟩:∃ k,j=k+17:=⟨j - 17,by omega⟩
   rfl
structure St0 (w W:World) (L M n:Nat) (c:Array Value):Prop where
 rows:RwIn W L n (fun _=>[]) (fun _=>.slice none 0 0)
 mach:Blk W M c 97
 lm:L<M
 wl:w.heap.size≤L
 below:Below w.heap.size w W
theorem new_a (w w4:World) (n:Nat) (c:Array Value) (hb:Below (w.alloc (.cells (madeCells #[.slice none 0 0] n) 113)).heap.size (w.alloc (.cells (madeCells #[.slice none 0 0] n) 113)) w4):St0 w (w4.alloc (.cells c 97)) w.heap.size w4.heap.size n c:=by
 have hr:=RwIn.made w n
 have h1:Below w.heap.size w (w.alloc (.cells (madeCells #[.slice none 0 0] n) 113)):=(Below.refl _ w).alloc (Nat.le_refl _) _
 have h2:=bel h1 hb
 have h3:Below w4.heap.size w4 (w4.alloc (.cells c 97)):=(Below.refl _ w4).alloc (Nat.le_refl _) _
 have hs:=hb.size
 rw [World.size_alloc] at hs
 exact ⟨(hr.below hb).below h3,Blk.new w4 _ _,by omega,Nat.le_refl _,bel h2 h3⟩
theorem new_b (w w4:World) (n:Nat) (c:Array Value) (hb:Below w.heap.size w w4):St0 w ((w4.alloc (.cells (madeCells #[.slice none 0 0] n) 113)).alloc (.cells c 97)) w4.heap.size (w4.heap.size+1) n c:=by
 obtain ⟨w5,h5⟩:∃ x,w4.alloc (.cells (madeCells #[.slice none 0 0] n) 113)=x:=⟨_,rfl⟩
 have hr:RwIn w5 w4.heap.size n (fun _=>[]) (fun _=>.slice none 0 0):=by rw [← h5];exact RwIn.made w4 n
 have hs:w5.heap.size=w4.heap.size+1:=by rw [← h5,World.size_alloc]
 have h1:Below w4.heap.size w4 w5:=by rw [← h5];exact (Below.refl _ w4).alloc (Nat.le_refl _) _
 rw [h5]
 have h3:Below w5.heap.size w5 (w5.alloc (.cells c 97)):=(Below.refl _ w5).alloc (Nat.le_refl _) _
 exact ⟨hr.below h3,by rw [← hs];exact Blk.new w5 _ _,by omega,hb.size,bel (bel hb h1) h3⟩
theorem new_st (g:Gf) (av aa ae:Option Addr) (cv ca ce:Nat) (sc:List Int) (sv:Value) (w:World) (hg:GrIn w g (.slice av g.vs.length cv) (.slice aa g.ar.length ca) (.slice ae g.es.length ce)) (hchk:chkG g=0) (hfit:∀ e ∈ g.es,fitsI e.an∧fitsI e.bn) (hsc:IntsAt w w.heap.size sc sv) (hfs:∀ x ∈ sc,fitsI x) :
    Calls Tryz.prog 30 #[grS g av cv aa ca ae ce,sv] w (NewSt w g sc):=by
 obtain ⟨sva,svn,svc,rfl⟩:∃ a n c,sv=.slice a n c:=by obtain ⟨a,c,h,-⟩:=hsc;exact ⟨a,_,c,h⟩
 obtain ⟨q0,qf⟩:=chk_zero hchk
 obtain ⟨q1,q2,q3,q4,q5⟩:=out_zero q0
 have hfr:=fun e he=>fr_at (e:=e) hchk he
 obtain ⟨n,hn⟩:∃ n:Nat,g.pts=(n:Int):=⟨g.pts.toNat,by omega⟩
 obtain ⟨nv,hnv⟩:∃ n:Nat,g.nv=(n:Int):=⟨g.nv.toNat,by unfold Gf.nv;omega⟩
 have hn1:n≤4096:=by omega
 have hm:g.es.length≤8192:=by omega
 have hnv1:nv≤64:=by unfold Gf.nv at hnv;omega
 have hw:IntKind.i64.wrap ((g.vs.length:Int)+g.tmp)=(nv:Int):=by rw [← hnv];exact fits_wrap (by unfold fitsI;unfold Gf.nv at hnv;omega)
 unfold Go.Proofs.YtmohmggnjldddaaGreatDoor.frm sizedG at qf
 simp only [Bool.and_eq_true,decide_eq_true_eq] at qf
 have hA:g.ar.length≤16:=qf.1.1.1.1
 have hszA:∀ x ∈ g.ar,1≤dSz x∧dSz x≤1024:=fun x hx=>by
  have h1:=List.all_eq_true.1 qf.1.1.1.2 x hx
  unfold szD at h1
  simpa using h1
 show Calls Tryz.prog 30 #[.agg #[.slice av g.vs.length cv,.int .i64 g.tmp,.slice aa g.ar.length ca,.int .i64 g.pts,.int .i64 g.ext,.slice ae g.es.length ce],.slice sva svn svc] w _
 rw [hn]
 rw [hn] at hfr
 obtain ⟨W1,hW1⟩:∃ W1,w.alloc (.cells #[.slice av g.vs.length cv,.int .i64 g.tmp,.slice aa g.ar.length ca,.int .i64 (n:Int),.int .i64 g.ext,.slice ae g.es.length ce] 30)=W1:=⟨_,rfl⟩
 obtain ⟨X,hX⟩:∃ X,w.heap.size=X:=⟨_,rfl⟩
 have hx1:Blk W1 X #[.slice av g.vs.length cv,.int .i64 g.tmp,.slice aa g.ar.length ca,.int .i64 (n:Int),.int .i64 g.ext,.slice ae g.es.length ce] 30:=by rw [← hW1,← hX];exact Blk.new w _ _
 have hb1:Below w.heap.size w W1:=by rw [← hW1];exact (Below.refl _ w).alloc (Nat.le_refl _) _
 have HMK:=fun w=>run_make_row' 92 113 (.slice none 0 0) 24 (P:=Tryz.prog) (by kernel_rfl) info_rows rfl .i64 .i64 n (by omega) (by omega) w
 have HDS:=zh (fun w=>stdeeds_any w)
 obtain ⟨i0,hi0,hz0,hz1,hz2⟩:=info_parts info_icell
 have HI0:=zh (za hi0 (za hz0 (za hz1 hz2)))
 have HFR:=zh hfr
 have HG:=zh (za hg (za hchk (za hfit (za hsc (za hfs (za hn (za hnv (za hszA hA))))))))
 have H1:=zh (za hx1 (za hb1 (za hn1 (za hm hnv1))))
 have HE:=zh (za hW1 hX)
 have HWR:=zh hw
 have KS:=fun w' (hW:Below W1.heap.size W1 w')=>(⟨(hx1.next hW).cell 0,(hx1.next hW).cell 1,(hx1.next hW).cell 2,(hx1.next hW).cell 3,(hx1.next hW).cell 4,(hx1.next hW).cell 5⟩:w'.cell? ⟨X,0,none⟩=some (.slice av g.vs.length cv)∧w'.cell? ⟨X,1,none⟩=some (.int .i64 g.tmp)∧w'.cell? ⟨X,2,none⟩=some (.slice aa g.ar.length ca)∧w'.cell? ⟨X,3,none⟩=some (.int .i64 (n:Int))∧w'.cell? ⟨X,4,none⟩=some (.int .i64 g.ext)∧w'.cell? ⟨X,5,none⟩=some (.slice ae g.es.length ce))
 clear hi0 hz0 hz1 hz2 hfr hg hchk hfit hsc hfs hn hnv hszA hA hx1 hb1 hn1 hm hnv1 hW1 hX q0 qf q1 q2 q3 q4 q5 hw
 go_enter Tryz.func30,Tryz.ntmps30
 go_upto_region 1 with fail
 rw [HE.out.1,HE.out.2]
 go_cut [5] (fun s5 wx=>∃ L M,s5=.pointer (some ⟨M,0,none⟩)∧St0 W1 wx L M n (machU g (.slice none 0 0) (.slice none 0 0) (.slice none 0 0) av cv aa ca ae ce n L))
 case first =>
  have hmd:∀ o:Obj,Below W1.heap.size W1 (W1.drew.alloc o):=fun o=>((Below.refl _ W1).drew).alloc (Nat.le_refl _) o
  go_region_held3 (fun w'=>w'.cell? ⟨X,0,none⟩=some (.slice av g.vs.length cv)∧w'.cell? ⟨X,1,none⟩=some (.int .i64 g.tmp)∧w'.cell? ⟨X,2,none⟩=some (.slice aa g.ar.length ca)∧w'.cell? ⟨X,3,none⟩=some (.int .i64 (n:Int))∧w'.cell? ⟨X,4,none⟩=some (.int .i64 g.ext)∧w'.cell? ⟨X,5,none⟩=some (.slice ae g.es.length ce))
   ((with_reducible refine KS _ ?_;repeat (with_reducible (first | exact Below.refl _ _ | exact hmd _ | refine below_drew ?_ | refine below_next ?_ hb4 | refine below_all ?_ _ | fail))))
   (first | (go_at_call 47;(with_reducible refine (HDS.out _).mono ?_);rintro z w4 ⟨rfl,hb4⟩))
  all_goals
   go_wp2_with fail
   go_meet
   first
    | exact ⟨_,_,rfl,new_a W1 w4 n _ ((Below.refl _ _).drew.trans hb4)⟩
    | exact ⟨_,_,rfl,new_b W1 w4 n _ ((Below.refl _ _).drew.trans hb4)⟩
    | exact ⟨_,_,rfl,new_b W1 w4.drew n _ (below_drew hb4)⟩
    | exact ⟨_,_,rfl,new_b W1 w4.drew n _ (below_drew ((Below.refl _ _).drew.trans hb4))⟩
 case rest =>
  obtain ⟨L,M,rfl,hst⟩:=hcut
  obtain ⟨W2,hW2⟩:∃ x,x=wc:=⟨_,rfl⟩
  subst hW2
  have hx2:=H1.out.1.next hst.below
  have hxb:∀ j u,W2.cell? ⟨X,j,none⟩=some u→W2.cell? ⟨X,j,none⟩=some u:=fun _ _ h=>h
  have hXL:X<L:=by have h1:=hst.wl;have h2:=H1.out.1.lt;omega
  have x5:W2.cell? ⟨X,5,none⟩=some (.slice ae g.es.length ce):=hx2.cell 5
  have H2:=zh (za hst (za hx2 hXL))
  have hwL:w.heap.size≤L:=by have h1:=hst.wl;have h2:=H1.out.2.1.size;omega
  have HWL:=zh hwL
  have hes0:=HG.out.1.es
  obtain ⟨ae',ce',hse,hlc,hcm,hrow⟩:=hes0
  cases hse
  have HROW:=zh hrow
  clear KS hst hx2 hXL hwL hrow hxb
  go_upto_region 2 with fail
  go_wp2_with fail
  go_loopw [20] (fun x wr=>∃ (i:Nat) (vs:Nat→Value),x=.int .i64 i∧i≤g.es.length∧RwIn wr L n (outT g.es i) vs∧Blk wr M (machU g (.slice none 0 0) (.slice none 0 0) (.slice none 0 0) av cv aa ca ae ce n L) 97∧(∀ p,p<n→∀ k,(vs p).ownBlock=some k→M<k)∧Below L W2 wr) (fun x _=>g.es.length - (intOf x).toNat)
  case atStart=>exact ⟨0,_,rfl,by omega,H2.out.1.rows.congr (fun p _=>by simp [outT]),H2.out.1.mach,fun _ _ _ h=>by simp [Value.ownBlock] at h,Below.refl _ _⟩
  case round =>
   obtain ⟨i,vs,rfl,hi,hrw,hM0,hlo,hbr⟩:=hrel
   have hLs:L<W2.heap.size:=H2.out.1.rows.row.lt
   have HBR:=zh (za hbr (za hrw (za hLs (za hM0 hlo))))
   clear hbr hrw hLs hM0 hlo
   by_cases hlt:i<g.es.length
   · have hbi:(i:Int)+1≤9223372036854775807:=by have:=H1.out.2.2.2.1;omega
     obtain ⟨b,o,rfl,hc⟩:=HROW.out.resolve_left (by omega)
     have hbw:Below w.heap.size w wr:=H1.out.2.1.trans ((H2.out.1.below.mono H1.out.2.1.size).trans (HBR.out.1.mono HWL.out))
     obtain ⟨k0,k1,k2,k3,k4,k5,k6,k7,k8,k9⟩:=eds_at hc i hlt
     have kk:=keeps_below hbw
     have m0:=kk _ _ _ k0
     have m1:=kk _ _ _ k1
     have m2:=kk _ _ _ k2
     have m3:=kk _ _ _ k3
     have m4:=kk _ _ _ k4
     have m5:=kk _ _ _ k5
     have m6:=kk _ _ _ k6
     have m7:=kk _ _ _ k7
     have m8:=kk _ _ _ k8
     have m9:=kk _ _ _ k9
     have hf:=HFR.out g.es[i] (List.getElem_mem hlt)
     obtain ⟨e,he⟩:∃ e,g.es[i]=e:=⟨_,rfl⟩
     have hge:g.es.getD i noE=e:=by rw [List.getD_eq_getElem?_getD,List.getElem?_eq_getElem hlt,Option.getD_some,he]
     rw [he] at m0 m1 m2 m3 m4 m5 m6 m7 m8 m9 hf
     obtain ⟨P,hP⟩:∃ P:Nat,e.fr=P:=⟨e.fr.toNat,by omega⟩
     rw [hP] at m0 hf
     have hPn:P<n:=by omega
     have hPi:(P:Int)<(n:Int):=hf.2
     obtain ⟨Y,hY⟩:∃ Y,wr.heap.size=Y:=⟨_,rfl⟩
     obtain ⟨W3,hW3⟩:∃ W3,wr.alloc (.cells #[.int .i64 (P:Int),.int .i64 e.dt,.int .i64 e.kd,.int .i64 e.dst,.int .i64 e.arr,.int .i64 e.op,.int .i64 e.av,.int .i64 e.an,.int .i64 e.bv,.int .i64 e.bn] 40)=W3:=⟨_,rfl⟩
     have hy3:Blk W3 Y #[.int .i64 (P:Int),.int .i64 e.dt,.int .i64 e.kd,.int .i64 e.dst,.int .i64 e.arr,.int .i64 e.op,.int .i64 e.av,.int .i64 e.an,.int .i64 e.bv,.int .i64 e.bn] 40:=by rw [← hW3,← hY];exact Blk.new wr _ _
     have hb3:Below wr.heap.size wr W3:=by rw [← hW3];exact (Below.refl _ wr).alloc (Nat.le_refl _) _
     have hr3:=HBR.out.2.1.below hb3
     have hM3:=HBR.out.2.2.2.1.next hb3
     obtain ⟨V,hV⟩:∃ V,vs P=V:=⟨_,rfl⟩
     have hrc:=hr3.row.cell hPn
     have hrf:=hr3.row.frozen P
     have hro:=hr3.own P hPn
     rw [hV] at hrc hro
     have hVL:∀ k,V.ownBlock=some k→L+1≤k:=fun k hk=>(hro.lt k hk).1
     have hVM:V.ownBlock≠some M:=fun e=>by have:=HBR.out.2.2.2.2 P hPn M (by rw [hV];exact e);omega
     have hyY:∀ k,V.ownBlock=some k→k≠Y:=fun k hk e=>by
      have:=((HBR.out.2.1.own P hPn).lt k (by rw [hV];exact hk)).2
      omega
     have hr4:=fun o=>hr3.below ((Below.refl W3.heap.size W3).alloc (Nat.le_refl _) o)
     have hrc4:∀ o,(W3.alloc o).cell? ⟨L,P,none⟩=some V:=fun o=>by rw [← hV];exact (hr4 o).row.cell hPn
     have y0:W3.cell? ⟨Y,0,none⟩=some (.int .i64 (P:Int)):=hy3.cell 0
     have y4:∀ o,(W3.alloc o).cell? ⟨Y,0,none⟩=some (.int .i64 (P:Int)):=fun o=>(hy3.alloc o).cell 0
     have g9:W3.cell? ⟨M,9,none⟩=some (.slice (some ⟨L,0,none⟩) n n):=hM3.cell 9
     have g10:∀ o,(W3.alloc o).cell? ⟨M,9,none⟩=some (.slice (some ⟨L,0,none⟩) n n):=fun o=>(hM3.alloc o).cell 9
     obtain ⟨N,hN⟩:∃ N,(outT g.es i P).length=N:=⟨_,rfl⟩
     have hNi:N≤i:=by rw [← hN];exact outT_len _ _ _
     rw [hN] at hro
     obtain ⟨CS,hCS⟩:∃ C,cellsN (outT g.es i P)=C:=⟨_,rfl⟩
     rw [hCS] at hro
     have hLW:L<W3.heap.size:=hr3.row.lt
     have HRO:=zh hro
     have HP:=zh (za hy3 (za hb3 (za hV (za hN (za hCS (za hVL (za hyY (za hge (za hP (za hNi (za hPn (za hLW (za hr3.row (za hM3 hVM))))))))))))))
     have HW3:=zh (za hW3 hY)
     have HM8:=zh H1.out.2.2.2.1
     clear hbw k0 k1 k2 k3 k4 k5 k6 k7 k8 k9 kk hf he hge hP hPn hy3 hb3 hr3 hV hro hVL hyY hr4 hN hCS hNi hLW hc hW3 hY hM3 hVM
     go_upto_region 5 with fail
     rw [HW3.out.1,HW3.out.2]
     have HML:=zh (show M≠L∧Y≠L∧M<W3.heap.size∧Y<W3.heap.size by
      have h1:=H2.out.1.lm
      have h2:=HBR.out.2.2.1
      have h3:=HBR.out.1.size
      have h4:=HW3.out.2
      have h5:=HP.out.2.2.2.2.2.2.2.2.2.2.2.2.2.1.lt
      have h6:=HP.out.1.lt
      exact ⟨by omega,by omega,h5,h6⟩)
     have HNN:=zh (show N+1≤maxLen∧(N+1) * 8≤140737488355328∧L+1≤W3.heap.size from by
      have h1:=HP.out.2.2.2.2.2.2.2.2.2.1
      have h2:=HM8.out
      have h3:=HP.out.2.2.2.2.2.2.2.2.2.2.2.1
      exact ⟨by unfold maxLen;omega,by omega,by omega⟩)
     obtain ⟨PA,hPA⟩:∃ p:Value→World→Prop,p=fun r w6=>∃ gg cap,r=.slice (some ⟨gg,0,none⟩) (N+1) cap∧w6.ownsRow (L+1) 3 1 (.slice (some ⟨gg,0,none⟩) (N+1) cap) (N+1) (CS++[.int .i64 (i:Int)])∧(W3.drew.alloc (.cells #[.int .i64 (i:Int)] 3)).grownBy w6 V.ownBlock∧(V.ownBlock=some gg∨gg=W3.heap.size+1):=⟨_,rfl⟩
     have HPA:=zh (fun r w6 (h:∃ gg cap,r=.slice (some ⟨gg,0,none⟩) (N+1) cap∧w6.ownsRow (L+1) 3 1 (.slice (some ⟨gg,0,none⟩) (N+1) cap) (N+1) (CS++[.int .i64 (i:Int)])∧(W3.drew.alloc (.cells #[.int .i64 (i:Int)] 3)).grownBy w6 V.ownBlock∧(V.ownBlock=some gg∨gg=W3.heap.size+1))=>show PA r w6 by rw [hPA];exact h)
     have HPB:=zh (fun r w6 (h:PA r w6)=>show ∃ gg cap,r=.slice (some ⟨gg,0,none⟩) (N+1) cap∧w6.ownsRow (L+1) 3 1 (.slice (some ⟨gg,0,none⟩) (N+1) cap) (N+1) (CS++[.int .i64 (i:Int)])∧(W3.drew.alloc (.cells #[.int .i64 (i:Int)] 3)).grownBy w6 V.ownBlock∧(V.ownBlock=some gg∨gg=W3.heap.size+1) by rw [hPA] at h;exact h)
     clear hPA
     have HG6:=zh (fun r w6 (h:PA r w6) k (h1:k<W3.heap.size) (h2:V.ownBlock≠some k)=>show w6.heap[k]?=W3.drew.heap[k]? by
      obtain ⟨gg,cap,-,-,hgrow,-⟩:=HPB.out r w6 h
      exact (hgrow.block k (by rw [World.size_alloc];show k<W3.heap.size+1;omega) (fun e=>h2 e.symm)).trans (((Below.refl W3.heap.size W3).drew.alloc (Nat.le_refl _) _).block k h1))
     have HVN:=zh (show V.ownBlock≠some M∧V.ownBlock≠some Y∧V.ownBlock≠some L by
      refine ⟨HP.out.2.2.2.2.2.2.2.2.2.2.2.2.2.2,fun e=>HP.out.2.2.2.2.2.2.1 _ e rfl,fun e=>?_⟩
      have:=HP.out.2.2.2.2.2.1 _ e
      omega)
     have HPL:=zh (fun r w6 (h:PA r w6)=>show ∃ gg cap,r=.slice (some ⟨gg,0,none⟩) (N+1) cap∧w6.cell? ⟨L,P,none⟩=some (vs P)∧w6.frozen? ⟨L,P,none⟩=false by
      obtain ⟨gg,cap,hr,-⟩:=HPB.out r w6 h
      have hL2:w6.rowIs L 113 n vs:=HP.out.2.2.2.2.2.2.2.2.2.2.2.2.1.of_block (HG6.out r w6 h L HP.out.2.2.2.2.2.2.2.2.2.2.2.1 HVN.out.2.2)
      exact ⟨gg,cap,hr,hL2.cell HP.out.2.2.2.2.2.2.2.2.2.2.1,hL2.frozen P⟩)
     have HJF:=zh (fun l r w' (h:Jk W3.drew (.cells #[.int .i64 (i:Int)] 3) ⟨L,P,none⟩ PA l r w')=>show w'.cell? ⟨M,9,none⟩=some (.slice (some ⟨L,0,none⟩) n n)∧w'.cell? ⟨Y,0,none⟩=some (.int .i64 (P:Int)) by
      exact ⟨h.cell (show M<W3.drew.heap.size from HML.out.2.2.1) HML.out.1 (fun r w0 hp=>HG6.out r w0 hp M HML.out.2.2.1 HVN.out.1) g9,h.cell (show Y<W3.drew.heap.size from HML.out.2.2.2) HML.out.2.1 (fun r w0 hp=>HG6.out r w0 hp Y HML.out.2.2.2 HVN.out.2.1) y0⟩)
     have HJR:=zh (fun l r w' (h:Jk W3.drew (.cells #[.int .i64 (i:Int)] 3) ⟨L,P,none⟩ PA l r w') (h1:l.getD 13 false=false)=>show w'.cell? ⟨L,P,none⟩=some V by
      rcases h.row h1 with e | e
      · rw [e];exact hrc4 _
      · rw [e];exact hrc)
     clear hrc hrf hrc4 y0 y4 g9 g10
     refine wp_region_any (by kernel_rfl) ?_
     refine wpAny_mem [some 25,some 26,some 27,some 28,some 29,some 30,some 31,some 32,some 33,some 34,some 35,some 36,some 37,some 38,some 39,some 40,some 41,some 42,none] (fun R j=>valsAt [.pointer (some ⟨M,0,none⟩),.pointer (some ⟨M,0,none⟩),.pointer (some ⟨M,9,none⟩),.slice (some ⟨L,0,none⟩) n n,.pointer (some ⟨Y,0,none⟩),.int .i64 (P:Int),.pointer (some ⟨M,0,none⟩),.pointer (some ⟨M,0,none⟩),.pointer (some ⟨M,9,none⟩),.slice (some ⟨L,0,none⟩) n n,.pointer (some ⟨Y,0,none⟩),.int .i64 (P:Int),.pointer (some ⟨L,P,none⟩),V,.int .i64 (i:Int),.slice (some ⟨W3.heap.size,0,none⟩) 1 1,R,.pointer (some ⟨L,P,none⟩),undef] j) (Jk W3.drew (.cells #[.int .i64 (i:Int)] 3) ⟨L,P,none⟩ PA) 16 undef rfl vs_k (by kernel_rfl) (by kernel_rfl) (by kernel_rfl) ?hs ?he ?hj
     case hj=>exact .inl ⟨rfl,rfl,rfl⟩
     case hs =>
      intro i' oo ho hil l r fr0 hl h0 hall hv hx w' hJ
      obtain ⟨c9,c0⟩:=HJF.out l r w' hJ
      have HJ:=zh hJ
      clear hJ
      have hi:i' < 19:=hil
      have hcase:i'=0∨i'=1∨i'=2∨i'=3∨i'=4∨i'=5∨i'=6∨i'=7∨i'=8∨i'=9∨i'=10∨i'=11∨i'=12∨i'=13∨i'=14∨i'=15∨i'=16∨i'=17∨i'=18:=by omega
      clear hi hil
      rcases hcase with rfl | rfl | rfl | rfl | rfl | rfl | rfl | rfl | rfl | rfl | rfl | rfl | rfl | rfl | rfl | rfl | rfl | rfl | rfl
      · obtain rfl:=Option.some.inj ho.symm
        clear ho
        have x5:fr0.tmps[(5:Nat)]?=some (.pointer (some ⟨M,0,none⟩)):=hx 5 (by decide)
        clear hv hx hall h0
        refine wpOp_step rfl (fun K hK=>?_)
        go_simp
        exact hK _ _ ⟨r,fun _=>rfl,rfl,HJ.out.set (by decide) (by decide) (by decide)⟩
      · obtain rfl:=Option.some.inj ho.symm
        clear ho
        have d0:fr0.tmps[(25:Nat)]?=some (.pointer (some ⟨M,0,none⟩)):=hv ⟨0,.data⟩ (by simp) rfl 25 rfl
        clear hv hx hall h0
        refine wpOp_step rfl (fun K hK=>?_)
        go_simp
        exact hK _ _ ⟨r,fun _=>rfl,rfl,HJ.out.set (by decide) (by decide) (by decide)⟩
      · obtain rfl:=Option.some.inj ho.symm
        clear ho
        have d1:fr0.tmps[(26:Nat)]?=some (.pointer (some ⟨M,0,none⟩)):=hv ⟨1,.data⟩ (by simp) rfl 26 rfl
        clear hv hx hall h0
        refine wpOp_step rfl (fun K hK=>?_)
        go_simp
        exact hK _ _ ⟨r,fun _=>rfl,rfl,HJ.out.set (by decide) (by decide) (by decide)⟩
      · obtain rfl:=Option.some.inj ho.symm
        clear ho
        have d2:fr0.tmps[(27:Nat)]?=some (.pointer (some ⟨M,9,none⟩)):=hv ⟨2,.data⟩ (by simp) rfl 27 rfl
        clear hv hx hall h0
        refine wpOp_step rfl (fun K hK=>?_)
        go_simp
        exact hK _ _ ⟨r,fun _=>rfl,rfl,HJ.out.set (by decide) (by decide) (by decide)⟩
      · obtain rfl:=Option.some.inj ho.symm
        clear ho
        have x7:fr0.tmps[(7:Nat)]?=some (.pointer (some ⟨Y,0,none⟩)):=hx 7 (by decide)
        clear hv hx hall h0
        refine wpOp_step rfl (fun K hK=>?_)
        go_simp
        exact hK _ _ ⟨r,fun _=>rfl,rfl,HJ.out.set (by decide) (by decide) (by decide)⟩
      · obtain rfl:=Option.some.inj ho.symm
        clear ho
        have d4:fr0.tmps[(29:Nat)]?=some (.pointer (some ⟨Y,0,none⟩)):=hv ⟨4,.data⟩ (by simp) rfl 29 rfl
        clear hv hx hall h0
        refine wpOp_step rfl (fun K hK=>?_)
        go_simp
        exact hK _ _ ⟨r,fun _=>rfl,rfl,HJ.out.set (by decide) (by decide) (by decide)⟩
      · obtain rfl:=Option.some.inj ho.symm
        clear ho
        have x5:fr0.tmps[(5:Nat)]?=some (.pointer (some ⟨M,0,none⟩)):=hx 5 (by decide)
        clear hv hx hall h0
        refine wpOp_step rfl (fun K hK=>?_)
        go_simp
        exact hK _ _ ⟨r,fun _=>rfl,rfl,HJ.out.set (by decide) (by decide) (by decide)⟩
      · obtain rfl:=Option.some.inj ho.symm
        clear ho
        have d6:fr0.tmps[(31:Nat)]?=some (.pointer (some ⟨M,0,none⟩)):=hv ⟨6,.data⟩ (by simp) rfl 31 rfl
        clear hv hx hall h0
        refine wpOp_step rfl (fun K hK=>?_)
        go_simp
        exact hK _ _ ⟨r,fun _=>rfl,rfl,HJ.out.set (by decide) (by decide) (by decide)⟩
      · obtain rfl:=Option.some.inj ho.symm
        clear ho
        have d7:fr0.tmps[(32:Nat)]?=some (.pointer (some ⟨M,0,none⟩)):=hv ⟨7,.data⟩ (by simp) rfl 32 rfl
        clear hv hx hall h0
        refine wpOp_step rfl (fun K hK=>?_)
        go_simp
        exact hK _ _ ⟨r,fun _=>rfl,rfl,HJ.out.set (by decide) (by decide) (by decide)⟩
      · obtain rfl:=Option.some.inj ho.symm
        clear ho
        have d8:fr0.tmps[(33:Nat)]?=some (.pointer (some ⟨M,9,none⟩)):=hv ⟨8,.data⟩ (by simp) rfl 33 rfl
        clear hv hx hall h0
        refine wpOp_step rfl (fun K hK=>?_)
        go_simp
        exact hK _ _ ⟨r,fun _=>rfl,rfl,HJ.out.set (by decide) (by decide) (by decide)⟩
      · obtain rfl:=Option.some.inj ho.symm
        clear ho
        have x7:fr0.tmps[(7:Nat)]?=some (.pointer (some ⟨Y,0,none⟩)):=hx 7 (by decide)
        clear hv hx hall h0
        refine wpOp_step rfl (fun K hK=>?_)
        go_simp
        exact hK _ _ ⟨r,fun _=>rfl,rfl,HJ.out.set (by decide) (by decide) (by decide)⟩
      · obtain rfl:=Option.some.inj ho.symm
        clear ho
        have d10:fr0.tmps[(35:Nat)]?=some (.pointer (some ⟨Y,0,none⟩)):=hv ⟨10,.data⟩ (by simp) rfl 35 rfl
        clear hv hx hall h0
        refine wpOp_step rfl (fun K hK=>?_)
        go_simp
        exact hK _ _ ⟨r,fun _=>rfl,rfl,HJ.out.set (by decide) (by decide) (by decide)⟩
      · obtain rfl:=Option.some.inj ho.symm
        clear ho
        have d9:fr0.tmps[(34:Nat)]?=some (.slice (some ⟨L,0,none⟩) n n):=hv ⟨9,.data⟩ (by simp) rfl 34 rfl
        have d11:fr0.tmps[(36:Nat)]?=some (.int .i64 (P:Int)):=hv ⟨11,.data⟩ (by simp) rfl 36 rfl
        clear hv hx hall h0
        refine wpOp_step rfl (fun K hK=>?_)
        go_simp
        exact hK _ _ ⟨r,fun _=>rfl,rfl,HJ.out.set (by decide) (by decide) (by decide)⟩
      · obtain rfl:=Option.some.inj ho.symm
        clear ho
        have d12:fr0.tmps[(37:Nat)]?=some (.pointer (some ⟨L,P,none⟩)):=hv ⟨12,.data⟩ (by simp) rfl 37 rfl
        have c1:=HJR.out l r w' HJ.out (up_not h0)
        clear hv hx hall h0
        refine wpOp_step rfl (fun K hK=>?_)
        go_simp
        exact hK _ _ ⟨r,fun _=>rfl,rfl,HJ.out.set (by decide) (by decide) (by decide)⟩
      · obtain rfl:=Option.some.inj ho.symm
        clear ho
        have x6:fr0.tmps[(6:Nat)]?=some (.int .i64 (i:Int)):=hx 6 (by decide)
        clear hv hx hall h0
        refine wpOp_step rfl (fun K hK=>?_)
        go_simp
        exact hK _ _ ⟨r,fun _=>rfl,rfl,HJ.out.set (by decide) (by decide) (by decide)⟩
      · obtain rfl:=Option.some.inj ho.symm
        clear ho
        have d14:fr0.tmps[(39:Nat)]?=some (.int .i64 (i:Int)):=hv ⟨14,.data⟩ (by simp) rfl 39 rfl
        clear hv hx hall
        obtain ⟨e1,e2,rfl⟩:=HJ.out.first (.inl (up_not h0))
        rw [if_neg (by rw [up_not h0];simp)]
        refine wpOp_step rfl (fun K hK=>?_)
        go_simp
        exact hK _ _ ⟨r,fun _=>rfl,rfl,.inl ⟨by rw [getD_set_ne false (by decide)];exact e1,by rw [getD_set_ne false (by decide)];exact e2,by rw [if_pos (up_self (by rw [hl];decide))];rfl⟩⟩
      · obtain rfl:=Option.some.inj ho.symm
        clear ho
        have d13:fr0.tmps[(38:Nat)]?=some (V):=hv ⟨13,.data⟩ (by simp) rfl 38 rfl
        have d15:fr0.tmps[(40:Nat)]?=some (.slice (some ⟨W3.heap.size,0,none⟩) 1 1):=hv ⟨15,.data⟩ (by simp) rfl 40 rfl
        have g13:=hall ⟨13,.data⟩ (by simp) rfl
        have g15:=hall ⟨15,.data⟩ (by simp) rfl
        obtain ⟨e1,e2,rfl⟩:=HJ.out.first (.inr (up_not h0))
        rw [if_pos g15]
        clear hv hx hall
        refine wpOp_step rfl (fun K hK=>?_)
        refine step_append_lies _ (by rfl) (.tmp 38) (.tmp 40) 113 (by rfl) (L+1) 3 i0 _ 1 8 Tryz.underlying113 HI0.out.1 HI0.out.2.1 HI0.out.2.2.1 HI0.out.2.2.2 rfl (by omega) V N CS (by simp [Act.eval,d13]) (HRO.out.drew.alloc _) ⟨W3.heap.size,0,none⟩ 1 1 [.int .i64 (i:Int)] (by simp [Act.eval,d15]) rfl (World.news_of_block (cs:=#[.int .i64 (i:Int)]) (t:=3) (fr:=(0,0)) (heap_alloc_new W3.drew _)) (one_int _) (by omega) HNN.out.1 HNN.out.2.1 (by rw [World.size_alloc];have:=HNN.out.2.2;show L+1≤W3.heap.size+1;omega) (W3.heap.size+1) (World.size_alloc _ _) ?_
        intro gg cap w6 hown2 hgrow hat hlt2
        exact hK _ _ ⟨_,fun h=>absurd rfl h,rfl,.inr (.inl ⟨up_self (by rw [hl];decide),getD_set_true g13,getD_set_true g15,by rw [getD_set_ne false (by decide)];exact e2,HPA.out _ _ ⟨gg,cap,rfl,hown2,hgrow,hat⟩⟩)⟩
      · obtain rfl:=Option.some.inj ho.symm
        clear ho
        have d3:fr0.tmps[(28:Nat)]?=some (.slice (some ⟨L,0,none⟩) n n):=hv ⟨3,.data⟩ (by simp) rfl 28 rfl
        have d5:fr0.tmps[(30:Nat)]?=some (.int .i64 (P:Int)):=hv ⟨5,.data⟩ (by simp) rfl 30 rfl
        clear hv hx hall h0
        refine wpOp_step rfl (fun K hK=>?_)
        go_simp
        exact hK _ _ ⟨r,fun _=>rfl,rfl,HJ.out.set (by decide) (by decide) (by decide)⟩
      · obtain rfl:=Option.some.inj ho.symm
        clear ho
        have d17:fr0.tmps[(42:Nat)]?=some (.pointer (some ⟨L,P,none⟩)):=hv ⟨17,.data⟩ (by simp) rfl 42 rfl
        have d16:fr0.tmps[(41:Nat)]?=some (r):=hv ⟨16,.data⟩ (by simp) rfl 41 rfl
        have g13:=hall ⟨13,.phase⟩ (by simp) rfl
        have g15:=hall ⟨15,.phase⟩ (by simp) rfl
        have g16:=hall ⟨16,.data⟩ (by simp) rfl
        clear hv hx hall
        have hpa:=HJ.out.second g16 (up_not h0)
        obtain ⟨gg,cap,hr,m0,m1⟩:=HPL.out _ _ hpa
        have HPP:=zh hpa
        clear hpa
        subst hr
        refine wpOp_step rfl (fun K hK=>?_)
        go_simp
        exact hK _ _ ⟨_,fun _=>rfl,rfl,.inr (.inr ⟨up_self (by rw [hl];decide),getD_set_true g16,getD_set_true g13,getD_set_true g15,_,HPP.out,rfl⟩)⟩
     case he =>
      intro l r w' hu hJ
      obtain ⟨w2,hpa,rfl⟩:=hJ.third (hu 18 (by decide))
      obtain ⟨gg,cap,rfl,hown2,hgrow,hat⟩:=HPB.out _ _ hpa
      simp only [putM,valsAt,Nat.reduceAdd,Nat.zero_add,List.getD_cons_zero,List.getD_cons_succ,Act.put,List.setIfInBounds_toArray,List.set_cons_succ,List.set_cons_zero]
      clear hpa hJ
      go_wp2_with fail
      go_roundw
      case rel =>
       obtain ⟨-,hb3,hV,hN,hCS,hVL,hyY,hge,hP,hNi,hPn,hLW,-,hM3,hVM⟩:=HP.out
       have hb4:Below wr.heap.size wr (W3.drew.alloc (.cells #[.int .i64 (i:Int)] 3)):=hb3.drew.alloc (by have:=hb3.size;exact this) _
       have hat2:(vs P).ownBlock=some gg∨gg=(W3.drew.alloc (.cells #[.int .i64 (i:Int)] 3)).heap.size:=by
        rw [hV]
        exact hat.imp id fun h=>by rw [h,World.size_alloc];rfl
       have hpush:=HBR.out.2.1.push hb4 (p:=P) (x:=i) hPn (by rw [hN,hCS];exact hown2) (by rw [hV];exact hgrow) (gg:=gg) rfl hat2
       have hMw:=HBR.out.2.2.2.1.lt
       refine ⟨i+1,_,by go_num,by omega,hpush.congr (fun p _=>?_),?_,?_,?_⟩
       · rw [outT_succ,hge,hP]
         by_cases e2:p=P
         · subst e2;simp
         · have:((P:Int)==(p:Int))=false:=by simp;omega
           rw [if_neg e2,this];simp
       · exact Blk.only (blk_grown ((show Blk W3.drew M _ _ from hM3).alloc _) hgrow hVM) ((Only.refl L w2).setCell (p:=⟨L,P,none⟩) rfl _) (by have:=H2.out.1.lm;omega)
       · intro p hp k hk
         by_cases e2:p=P
         · simp only [if_pos e2] at hk
           have e3:gg=k:=Option.some.inj hk
           rcases hat2 with h | h
           · have:=HBR.out.2.2.2.2 P hPn gg h
             omega
           · have:=hb4.size
             omega
         · simp only [if_neg e2] at hk
           exact HBR.out.2.2.2.2 p hp k hk
       · have h5:=HBR.out.1.trans (hb4.mono (Nat.le_of_lt HBR.out.2.1.row.lt))
         exact (h5.grown hgrow (Nat.le_trans (Nat.le_of_lt HBR.out.2.2.1) h5.size) (fun k hk=>by have:=hVL k hk;omega)).setCell (Nat.le_refl L) _
      case measure=>simp [intOf];omega
   · obtain rfl:i=g.es.length:=by omega
     obtain ⟨wa,hwa⟩:∃ x,x=wr:=⟨_,rfl⟩
     subst hwa
     obtain ⟨hbr,hrw,hLs,hMr,hlo⟩:=HBR.out
     have hwL:=HWL.out
     have hLM:=H2.out.1.lm
     have hbW:Below w.heap.size w wa:=H1.out.2.1.trans ((H2.out.1.below.mono H1.out.2.1.size).trans (hbr.mono hwL))
     have hxr:=H2.out.2.1.below hbr H2.out.2.2
     have a0:wa.cell? ⟨X,0,none⟩=some (.slice av g.vs.length cv):=hxr.cell 0
     have a1:wa.cell? ⟨X,1,none⟩=some (.int .i64 g.tmp):=hxr.cell 1
     obtain ⟨vb,hvb⟩:∃ x,wa.heap.size=x:=⟨_,rfl⟩
     obtain ⟨W5,hW5⟩:∃ W,wa.alloc (.cells (intsV (List.replicate nv 0)) 2)=W:=⟨_,rfl⟩
     have hmk:(Instr.makeSlice 42 (.int .i64 (nv:Int)) (.int .i64 (nv:Int))).run Tryz.prog wa=.ok (.slice (some ⟨vb,0,none⟩) nv nv) W5:=by
      have h:=mk_ints nv (by have:=H1.out.2.2.2.2;omega) wa
      rwa [hvb,hW5] at h
     have hw:=HWR.out
     have hM5:Blk W5 M (machU g (.slice none 0 0) (.slice none 0 0) (.slice none 0 0) av cv aa ca ae ce n L) 97:=by rw [← hW5];exact hMr.alloc _
     have c0:W5.cell? ⟨M,0,none⟩=some (.slice none 0 0):=hM5.cell 0
     have f0:W5.frozen? ⟨M,0,none⟩=false:=hM5.free 0
     have hMv:M<vb:=by rw [← hvb];exact hMr.lt
     have hb5:Below wa.heap.size wa W5:=by rw [← hW5];exact (Below.refl _ wa).alloc (Nat.le_refl _) _
     have ho:Only M W5 (W5.setCell ⟨M,0,none⟩ (.slice (some ⟨vb,0,none⟩) nv nv)):=(Only.refl M W5).setCell (p:=⟨M,0,none⟩) rfl _
     have hN:NewA w g (machU g (.slice (some ⟨vb,0,none⟩) nv nv) (.slice none 0 0) (.slice none 0 0) av cv aa ca ae ce n L) n L M vb nv vs 0 (.slice none 0 0) [] (W5.setCell ⟨M,0,none⟩ (.slice (some ⟨vb,0,none⟩) nv nv)) :=
      { mach:=hM5.set 0 _
        rows:=rows_keep (vb:=vb) hrw (fun p hp k hk=>by rw [← hvb];exact ((hrw.own p hp).lt k hk).2) (by omega) (fun b hb=>by
         have hbM:b≠M∧b<wa.heap.size:=by
          rcases hb with rfl | ⟨h1,h2,p,hp,h3⟩
          · exact ⟨by omega,by omega⟩
          · have:=hlo p hp b h3
            exact ⟨by omega,by omega⟩
         rw [ho.block b (by have:=hb5.size;omega) hbM.1]
         exact hb5.block b hbM.2)
        rlo:=fun p hp k hk=>⟨hlo p hp k hk,by rw [← hvb];exact ((hrw.own p hp).lt k hk).2⟩
        vars:=by
         have h3:Blk W5 vb (intsV (List.replicate nv 0)) 2:=by rw [← hW5,← hvb];exact Blk.new wa _ _
         exact h3.only ho (by omega)
        row:=World.ownsRow_nil _ _ _ _
        len:=rfl
        abl:=rfl
        blk:=fun j h=>by simp at h
        lo:=fun x h=>by cases h
        nr:=fun x h=>by cases h
        nd:=List.nodup_nil
        below:=(bel hbW hb5).trans (ho.old (B0:=w.heap.size) (by omega) (bel hbW hb5).size) }
     have b2:(W5.setCell ⟨M,0,none⟩ (.slice (some ⟨vb,0,none⟩) nv nv)).cell? ⟨X,2,none⟩=some (.slice aa g.ar.length ca):=only_cell ho ((hxr.next hb5).cell 2) (by show X≠M;have:=H2.out.2.2;omega)
     have HN:=zh hN
     have HL:=zh (za hwL (za hLM hMv))
     have HAR:=zh HG.out.1.ar
     clear hN hbr hrw hLs hMr hlo hwL hLM hbW hxr hvb hW5 hMv hM5 hb5 ho x5 HBR
     go_upto_region 8 with fail
     clear a0 a1 c0 f0 hmk hw
     go_wp2_with fail
     go_loopw [58] (fun x wr=>∃ (i:Nat) (va:Value) (ab:List (Nat × Nat)),x=.int .i64 i∧i≤g.ar.length∧NewA w g (machU g (.slice (some ⟨vb,0,none⟩) nv nv) (.slice none 0 0) (.slice none 0 0) av cv aa ca ae ce n L) n L M vb nv vs i va ab wr) (fun x _=>g.ar.length - (intOf x).toNat)
     case atStart=>exact ⟨0,_,_,rfl,by omega,HN.out⟩
     case round =>
      obtain ⟨i,va,ab,rfl,hi,hNr⟩:=hrel
      clear HN b2
      have HN:=zh hNr
      clear hNr
      by_cases hlt:i<g.ar.length
      · have hbi:(i:Int)+1≤9223372036854775807:=by have:=HG.out.2.2.2.2.2.2.2.2;omega
        have hsl:=HAR.out
        obtain ⟨a',c',e',hlc,hcm,hdr⟩:=hsl
        cases e'
        obtain ⟨b,o,rfl,hrw⟩:=hdr.resolve_left (by omega)
        obtain ⟨k0,k1⟩:=ditem_at hrw i hlt
        have d0:=keeps_below HN.out.below _ _ _ k0
        have d1:=keeps_below HN.out.below _ _ _ k1
        obtain ⟨hs0,hs1⟩:=HG.out.2.2.2.2.2.2.2.1 _ (List.getElem_mem hlt)
        obtain ⟨z,hz⟩:∃ z:Nat,dSz g.ar[i]=(z:Int):=⟨(dSz g.ar[i]).toNat,by omega⟩
        have hzz:zerosA g.ar[i]=z:=by unfold zerosA;omega
        rw [hz] at d1
        obtain ⟨NM,hNM⟩:∃ x,dNm g.ar[i]=x:=⟨_,rfl⟩
        rw [hNM] at d0
        obtain ⟨w5,hW4⟩:∃ W4,wr.alloc (.cells #[.string NM,.int .i64 z] 104)=W4:=⟨_,rfl⟩
        obtain ⟨Y,hY⟩:∃ X,wr.heap.size=X:=⟨_,rfl⟩
        have hx5:Blk w5 Y #[.string NM,.int .i64 z] 104:=by rw [← hW4,← hY];exact Blk.new wr _ _
        have hb5:Below wr.heap.size wr w5:=by rw [← hW4];exact (Below.refl _ wr).alloc (Nat.le_refl _) _
        have hM5:=HN.out.mach.next hb5
        have hr5:w5.ownsRow (vb+1) 42 1 va i (ab.map rowV):=by rw [← hW4];exact HN.out.row.alloc _
        have hmk:=mk_ints z (by omega)
        have b1:w5.cell? ⟨Y,1,none⟩=some (.int .i64 z):=hx5.cell 1
        have a8:w5.cell? ⟨M,1,none⟩=some va:=hM5.cell 1
        have a9:(w5.alloc (.cells (intsV (List.replicate z 0)) 2)).cell? ⟨M,1,none⟩=some va:=(hM5.alloc _).cell 1
        have a10:((w5.alloc (.cells (intsV (List.replicate z 0)) 2)).alloc (.cells #[.slice (some ⟨w5.heap.size,0,none⟩) z z] 42)).cell? ⟨M,1,none⟩=some va:=((hM5.alloc _).alloc _).cell 1
        obtain ⟨i0,hi0,hz0,hz1,hz2⟩:=info_parts info_rows3
        have hvbs:=HN.out.vars.lt
        have hMva:va.ownBlock≠some M:=fun e=>by have:=(hr5.lt _ e).1;have:=HL.out.2.2;omega
        have hvs:vb<w5.heap.size:=by rw [← hW4,World.size_alloc];omega
        have HI0:=zh (za hi0 (za hz0 (za hz1 hz2)))
        have HR5:=zh (za hr5 (za hM5 (za hMva (za hvs hzz))))
        have HW4:=zh (za hW4 hY)
        have HA16:=zh HG.out.2.2.2.2.2.2.2.2
        clear hlc hcm hdr hrw k0 k1 hs0 hs1 hz hzz hNM hx5 hb5 hM5 hr5 hi0 hz0 hz1 hz2 hvbs hMva hvs hW4 hY
        go_upto_region 11 with fail
        rw [HW4.out.1,HW4.out.2]
        go_region_law
         (refine step_append_lies _ (by rfl) _ _ _ (by rfl) (vb+1) 42 i0 _ 1 24 Tryz.underlying45 HI0.out.1 HI0.out.2.1 HI0.out.2.2.1 HI0.out.2.2.2 rfl (by omega) va i (ab.map rowV) (by rfl) ((HR5.out.1.drew.alloc _).alloc _) ⟨w5.heap.size+1,0,none⟩ 1 1 [.slice (some ⟨w5.heap.size,0,none⟩) z z] (by rfl) (by rfl) (World.news_of_block (cs:=#[.slice (some ⟨w5.heap.size,0,none⟩) z z]) (t:=42) (fr:=(0,0)) (by have h:=heap_alloc_new (w5.drew.alloc (.cells (intsV (List.replicate z 0)) 2)) (.cells #[.slice (some ⟨w5.heap.size,0,none⟩) z z] 42);rw [World.size_alloc] at h;exact h)) (fun u hu=>by rw [List.mem_singleton.1 hu];rfl) (by omega) (by unfold maxLen;have:=HA16.out;omega) (by have:=HA16.out;omega) (by have:=HR5.out.2.2.2.1;simp;omega) (w5.heap.size+2) (by simp) ?_
          intro gg cap w7 hown7 hgrow7 hat7 hlt7
          have q8:w7.cell? ⟨M,1,none⟩=some va:=(blk_grown ((((show Blk w5.drew M _ _ from HR5.out.2.1).alloc _).alloc _)) hgrow7 HR5.out.2.2.1).cell 1
          have z8:w7.frozen? ⟨M,1,none⟩=false:=(blk_grown ((((show Blk w5.drew M _ _ from HR5.out.2.1).alloc _).alloc _)) hgrow7 HR5.out.2.2.1).free 1)
        all_goals
         have hnext:=HN.out.next HL.out.1 HL.out.2.1 HL.out.2.2 hlt HR5.out.2.2.2.2 HW4.out.1 (grown_undrew (w:=(w5.alloc (.cells (intsV (List.replicate z 0)) 2)).alloc (.cells #[.slice (some ⟨w5.heap.size,0,none⟩) z z] 42)) hgrow7) hown7 hat7
         have HNX:=zh hnext
         clear hnext hown7 hgrow7 hat7
         go_wp2_with fail
         go_roundw
         case rel=>exact ⟨i+1,_,_,by go_num,by omega,HNX.out⟩
         case measure=>simp [intOf];omega
      · obtain rfl:i=g.ar.length:=by omega
        have e2:wr.cell? ⟨M,2,none⟩=some (.slice none 0 0):=HN.out.mach.cell 2
        have e3:wr.frozen? ⟨M,2,none⟩=false:=HN.out.mach.free 2
        go_wp2_with fail
        go_ret
        obtain ⟨hg,hchk,hfit,hsc,hfs,hn,hnv,hszA,hA⟩:=HG.out
        exact HN.out.done HL.out.1 HL.out.2.1 HL.out.2.2 hchk hn hnv hfit hg.es hsc hfs
end Go.Proofs.YtmohmggnjldddaaGreatDoor
