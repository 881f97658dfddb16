/-
  A new machine: proved is that all lies in memory as a run begins.
-/
import Derived.Test.YtmohmggnjldddaaGreatDoorQRunT
import Derived.Test.YtmohmggnjldddaaGreatDoorQLook
import Derived.Laws.MakeOwn
import Derived.Laws.OwnMore
namespace Go.Proofs.YtmohmggnjldddaaGreatDoor
open Go Go.RowKit Go.Maps
theorem make_ints (n:Nat) (hn:n≤1024) (w:World):(Instr.makeSlice 42 (.int .i64 (n:Int)) (.int .i64 (n:Int))).run Tryz.prog w=.ok (.slice (some ⟨w.heap.size,0,none⟩) n n) (w.alloc (.cells (intsV (List.replicate n 0)) 2)):=by
 obtain ⟨i0,hi0,hz0,hz1,hz2⟩:=info_parts (show (Tryz.prog.info? 2).map (fun i=>(i.zero,i.size,i.bytes))=some (some (.int .i64 0),1,8) by kernel_rfl)
 have h:=run_make (P:=Tryz.prog) w 42 2 i0 _ Tryz.underlying42 hi0 hz0 .i64 .i64 (n:Int) (n:Int) (by omega) (Int.le_refl _) (by rw [hz2];omega) (by omega)
 rw [hz1] at h
 have e:madeCells (Value.cells (.int .i64 0)) n=intsV (List.replicate n 0):=by
  apply Array.toList_inj.1
  have:=toList_madeCells_one (.int .i64 0) n
  rw [show madeCells (Value.cells (.int .i64 0)) n=madeCells #[.int .i64 0] n from rfl,this]
  simp [intsV]
 have e2:((n:Int)).toNat=n:=by omega
 rw [e2,Nat.mul_one,e] at h
 exact h
theorem info_arows:(Tryz.prog.info? 42).map (fun i=>(i.zero,i.size,i.bytes))=some (some (.slice none 0 0),1,24):=by kernel_rfl
def startR (VN:List ByteArray) (AN:List Nd):Rn:=⟨List.replicate VN.length 0,AN.map (fun x=>List.replicate (zerosA x) 0),[],0,[]⟩
def NewTo (w:World) (VN:List ByteArray) (AN:List Nd):Ending→World→Prop:=fun e w'=>∃ K:Me,K.ok∧K.H0=w.heap.size∧K.E.most=0∧K.E.pl=lookP (pairsV VN ++ pairsA AN)∧K.nv=VN.length∧K.ab.map (·.2)=AN.map zerosA∧(K.ab.length=0 ∨ K.H0≤K.ar)∧e=.returned (.pointer (some ⟨K.M,0,none⟩))∧Below w.heap.size w w'∧Mc K w' (startR VN AN) (.slice none 0 0) (.slice none 0 0)
structure NewIn (w:World) (G M vb:Nat) (VN:List ByteArray) (AN:List Nd) (i:Nat) (va:Value) (ab:List (Nat × Nat)) (wr:World):Prop where
 map:OwnM wr G (VN.length+i) (mapP (pairsV VN ++ (pairsA AN).take i))
 mach:Blk wr M #[.map (some G),.slice none 0 0,.int .i64 0,.int .i64 0,.int .i64 0,.int .i64 0,.slice none 0 0,.slice (some ⟨vb,0,none⟩) VN.length VN.length,va] 84
 vars:Blk wr vb (intsV (List.replicate VN.length 0)) 2
 row:wr.ownsRow (vb+1) 42 1 va i (ab.map rowV)
 len:ab.length=i
 abl:ab.map (·.2)=(AN.take i).map zerosA
 blk:∀ j (h:j < ab.length),Blk wr ab[j].1 (intsV (List.replicate ab[j].2 0)) 2
 lo:∀ x ∈ ab,vb < x.1∧x.1 < wr.heap.size
 nr:∀ x ∈ ab,va.ownBlock ≠ some x.1
 nd:(ab.map (·.1)).Nodup
 below:Below w.heap.size w wr
theorem abl_at {ab:List (Nat × Nat)} {AN:List Nd} (h:ab.map (·.2)=AN.map zerosA) (i:Nat) (hi:i < ab.length):∃ hi2:i < AN.length,ab[i].2=zerosA AN[i]:=by
 have hl:ab.length=AN.length:=by have:=congrArg List.length h;simpa using this
 refine ⟨by omega,?_⟩
 have h1:(ab.map (·.2))[i]'(by simpa using hi)=(AN.map zerosA)[i]'(by simp;omega):=by simp only [h]
 simpa using h1
theorem NewIn.done {w wr:World} {G M vb:Nat} {VN:List ByteArray} {AN:List Nd} {va:Value} {ab:List (Nat × Nat)} (h:NewIn w G M vb VN AN AN.length va ab wr) (hw:w.heap.size=G) (hGM:G+1=M) (hMv:M < vb) (hV:VN.length≤32) (hA:AN.length≤16) (hsz:∀ x ∈ AN,0≤dSz x∧dSz x≤1024):NewTo w VN AN (.returned (.pointer (some ⟨M,0,none⟩))) wr:=by
 have habl:=h.abl
 rw [List.take_length] at habl
 have hmap:=h.map
 rw [List.take_of_length_le (by simp [pairsA])] at hmap
 have hGlt:=h.map.lt
 have hMlt:=h.mach.lt
 have hvlt:=h.vars.lt
 obtain ⟨ar,har⟩:∃ ar,va.ownBlock.getD G=ar:=⟨_,rfl⟩
 have harc:(va.ownBlock=some ar∧vb+1≤ar∧ar < wr.heap.size) ∨ (va.ownBlock=none∧ar=G):=by
  cases hv:va.ownBlock with
  | none=>rw [hv] at har;exact .inr ⟨rfl,har.symm⟩
  | some q =>
    rw [hv] at har
    simp only [Option.getD_some] at har
    subst har
    exact .inl ⟨rfl,h.row.lt q hv⟩
 have hok:({ E:=⟨lookP (pairsV VN ++ pairsA AN),0⟩,M:=M,G:=G,gn:=VN.length+AN.length,D:=mapP (pairsV VN ++ pairsA AN),vb:=vb,nv:=VN.length,va:=va,ar:=ar,ab:=ab,H0:=w.heap.size,B1:=wr.heap.size }:Me).ok :=
  { most:=Nat.zero_le _
    look:=fun nm=>mapP_at _ nm
    m0:=by show w.heap.size≤M;omega
    v0:=by show w.heap.size≤vb;omega
    a0:=fun x hx=>by have:=h.lo x hx;show w.heap.size≤x.1;omega
    b0:=h.below.size
    m1:=hMlt
    g1:=hGlt
    v1:=hvlt
    r1:=by show ar < wr.heap.size;rcases harc with h1 | h1 <;> omega
    a1:=fun x hx=>(h.lo x hx).2
    mg:=by show M ≠ G;omega
    mv:=by show M ≠ vb;omega
    mr:=by show M ≠ ar;rcases harc with h1 | h1 <;> omega
    ma:=fun x hx=>by have:=h.lo x hx;show M ≠ x.1;omega
    vg:=by show vb ≠ G;omega
    vr:=by show vb ≠ ar;rcases harc with h1 | h1 <;> omega
    va':=fun x hx=>by have:=h.lo x hx;show vb ≠ x.1;omega
    ag:=fun x hx=>by have:=h.lo x hx;show x.1 ≠ G;omega
    ra:=fun x hx=>by
     show x.1 ≠ ar
     rcases harc with h1 | h1
     · intro e
       exact h.nr x hx (by rw [h1.1,e])
     · have:=h.lo x hx;omega
    aa:=h.nd
    few:=by show ab.length≤maxLen;have:=h.len;unfold maxLen;omega
    az:=fun x hx=>by
     obtain ⟨i,hi,rfl⟩:=List.getElem_of_mem hx
     obtain ⟨hi2,e⟩:=abl_at habl i hi
     have:=hsz _ (List.getElem_mem hi2)
     rw [e]
     unfold zerosA
     omega
    nz:=by show VN.length≤1024;omega
    rows:=by
     have hlen:=h.len
     rcases h.row.2 with ⟨rfl,h0⟩ | ⟨g,cap,cur,hva,hg,hh,hn,hm,-⟩
     · exact ⟨none,0,by show Value.slice none 0 0=.slice none ab.length 0;rw [hlen,h0],by show ab.length≤0;omega,Nat.zero_le _,.inl (by show ab.length=0;omega)⟩
     · refine ⟨some ⟨g,0,none⟩,cap,by show va=.slice _ ab.length cap;rw [hlen];exact hva,by show ab.length≤cap;omega,hm,.inr ?_⟩
       have e:va.ownBlock=some g:=by rw [hva];rfl
       rcases harc with h1 | h1
       · rw [h1.1] at e
         rw [Option.some.inj e]
       · rw [h1.1] at e
         cases e }
 have hr0:ab.length=0 ∨ w.heap.size≤ar:=by
  rcases harc with h1 | h1
  · exact .inr (by omega)
  · rcases h.row.2 with ⟨_,h0⟩ | ⟨g,cap,cur,hva,-⟩
    · exact .inl (by rw [h.len,h0])
    · rw [hva] at h1
      exact absurd h1.1 (by simp [Value.ownBlock])
 refine ⟨_,hok,rfl,rfl,rfl,rfl,habl,hr0,rfl,h.below,?_⟩
 exact
 { mach:=h.mach
   evs:=World.ownsRow_nil _ _ _ _
   left:=⟨none,0,rfl,Nat.le_refl _,Nat.zero_le _,.inl rfl⟩
   map:=hmap
   vars:=h.vars
   rows:=fun i hi=>by
    show wr.cell? ⟨ar,i,none⟩=some (rowV ab[i])
    have hx:(ab.map rowV)[i]?=some (rowV ab[i]):=by simp [hi]
    rcases harc with h1 | h1
    · have:=h.row.cells h1.1 i _ hx
      simpa [add_none] using this
    · exfalso
      rcases h.row.2 with ⟨_,h0⟩ | ⟨g,cap,cur,hva,-⟩
      · have:=h.len
        have hi':i < ab.length:=hi
        omega
      · rw [hva] at h1
        exact absurd h1.1 (by simp [Value.ownBlock])
   arrs:=fun i hi=>by
    obtain ⟨hi2,e⟩:=abl_at habl i hi
    have hb:=h.blk i hi
    rw [e] at hb
    have e2:(startR VN AN).arrs.getD i []=List.replicate (zerosA AN[i]) 0:=by simp [startR,List.getD_eq_getElem?_getD,hi2]
    rw [e2]
    exact hb
   size:=Nat.le_refl _
   nv:=by show (List.replicate VN.length (0:Int)).length=VN.length;simp
   na:=by show (AN.map _).length=ab.length;rw [List.length_map,h.len]
   sz:=fun i hi=>by
    obtain ⟨hi2,e⟩:=abl_at habl i hi
    have e2:(startR VN AN).arrs.getD i []=List.replicate (zerosA AN[i]) 0:=by simp [startR,List.getD_eq_getElem?_getD,hi2]
    rw [e2,List.length_replicate]
    exact e.symm
   steps:=Nat.le_refl _
   few:=Nat.le_refl _
   fv:=fun x hx=>by
    have:=List.eq_of_mem_replicate hx
    subst this
    decide
   fa:=fun l hl x hx=>by
    obtain ⟨y,-,rfl⟩:=List.mem_map.1 hl
    have:=List.eq_of_mem_replicate hx
    subst this
    decide
   fl:=fun x hx=>by cases hx }
theorem NewIn.next {w wr w5 w7:World} {G M vb i z gg cap:Nat} {VN:List ByteArray} {AN:List Nd} {va:Value} {ab:List (Nat × Nat)} (h:NewIn w G M vb VN AN i va ab wr) (hw:w.heap.size≤G) (hGM:G < M) (hMv:M < vb) (hlt:i < AN.length) (hz:zerosA AN[i]=z) {o4 oB:Obj}
    (hg5:(wr.alloc o4).grownBy w5 (some G)) (hm5:OwnM w5 G (VN.length+i+1) ((mapP (pairsV VN ++ (pairsA AN).take i)).put (keyS (dNm AN[i])) (.lit (.int .i64 (i:Int)))))
    (hg7:((w5.alloc (.cells (intsV (List.replicate z 0)) 2)).alloc oB).grownBy w7 va.ownBlock) (hrow:w7.ownsRow (vb+1) 42 1 (.slice (some ⟨gg,0,none⟩) (i+1) cap) (i+1) (ab.map rowV ++ [rowV (w5.heap.size,z)])) (hat:va.ownBlock=some gg ∨ gg=w5.heap.size+2) :
    NewIn w G M vb VN AN (i+1) (.slice (some ⟨gg,0,none⟩) (i+1) cap) (ab ++ [(w5.heap.size,z)]) (w7.setCell ⟨M,8,none⟩ (.slice (some ⟨gg,0,none⟩) (i+1) cap)):=by
 have hs5:wr.heap.size < w5.heap.size:=by have:=hg5.size;rw [World.size_alloc] at this;omega
 have hs7:w5.heap.size+2≤w7.heap.size:=by have:=hg7.size;rw [World.size_alloc,World.size_alloc] at this;omega
 have hva:∀ g,va.ownBlock=some g→vb+1≤g∧g < wr.heap.size:=fun g hg=>h.row.lt g hg
 have ho:Only M w7 (w7.setCell ⟨M,8,none⟩ (.slice (some ⟨gg,0,none⟩) (i+1) cap)):=(Only.refl M w7).setCell (p:=⟨M,8,none⟩) rfl _
 have keep:∀ {b cs t},Blk wr b cs t→b ≠ G→va.ownBlock ≠ some b→Blk w7 b cs t:=fun {b cs t} hb h1 h2 =>
  blk_grown (((blk_grown (hb.alloc o4) hg5 (fun e=>h1 (by simpa using e.symm))).alloc _).alloc _) hg7 h2
 have hnew:Blk w7 w5.heap.size (intsV (List.replicate z 0)) 2:=blk_grown ((Blk.new w5 _ _).alloc _) hg7 (fun e=>by have:=(hva _ e).2;omega)
 have hb7:Below w.heap.size w w7:=by
  have b4:=h.below.alloc h.below.size o4
  have b5:=below_grown b4 b4.size hg5 (fun q hq=>by simp only [Option.some.injEq] at hq;omega)
  have b6:=(b5.alloc b5.size (.cells (intsV (List.replicate z 0)) 2))
  have b6':=b6.alloc b6.size oB
  exact below_grown b6' b6'.size hg7 (fun q hq=>by have:=(hva q hq).1;omega)
 exact
 { map:=by
     have h1:OwnM w7 G (VN.length+i+1) _:=((hm5.alloc (.cells (intsV (List.replicate z 0)) 2)).alloc oB).kept hg7 (fun e=>by have:=(hva G e.symm).1;omega)
     have h2:=ownsMap_only h1 ho (by omega)
     rw [pairsA_at AN i hlt,← List.append_assoc,mapP_snoc]
     exact h2
   mach:=by
    have h1:=(keep h.mach (by omega) (fun e=>by have:=(hva M e).1;omega)).set 8 (.slice (some ⟨gg,0,none⟩) (i+1) cap)
    exact h1
   vars:=(keep h.vars (by omega) (fun e=>by have:=(hva vb e).1;omega)).only ho (by omega)
   row:=by rw [List.map_append];exact ownsRow_only hrow ho (by omega)
   len:=by rw [List.length_append,h.len];rfl
   abl:=by rw [List.map_append,h.abl,take_succ' hlt,List.map_append];simp [hz]
   blk:=fun j hj=>by
    rw [List.length_append] at hj
    by_cases hj1:j < ab.length
    · rw [List.getElem_append_left hj1]
      have hx:=h.lo _ (List.getElem_mem hj1)
      exact (keep (h.blk j hj1) (by omega) (h.nr _ (List.getElem_mem hj1))).only ho (by omega)
    · have e:j=ab.length:=by simp only [List.length_singleton] at hj;omega
      subst e
      rw [List.getElem_append_right (Nat.le_refl _)]
      simp only [Nat.sub_self,List.getElem_cons_zero]
      have:=h.mach.lt
      exact hnew.only ho (by omega)
   lo:=fun x hx=>by
    have hsz:(w7.setCell ⟨M,8,none⟩ (.slice (some ⟨gg,0,none⟩) (i+1) cap)).heap.size=w7.heap.size:=by simp [World.setCell]
    rw [hsz]
    rcases List.mem_append.1 hx with hx | hx
    · have:=h.lo x hx;omega
    · rw [List.mem_singleton.1 hx]
      have:=h.vars.lt
      exact ⟨by show vb < w5.heap.size;omega,by show w5.heap.size < _;omega⟩
   nr:=fun x hx=>by
    have hgb:(Value.slice (some ⟨gg,0,none⟩) (i+1) cap).ownBlock=some gg:=rfl
    rw [hgb]
    intro e
    have e:=Option.some.inj e
    rcases List.mem_append.1 hx with hx | hx
    · rcases hat with h1 | h1
      · exact h.nr x hx (by rw [h1,e])
      · have:=h.lo x hx;omega
    · rw [List.mem_singleton.1 hx] at e
      simp only at e
      rcases hat with h1 | h1
      · have:=(hva gg h1).2;omega
      · omega
   nd:=by
    rw [List.map_append,List.nodup_append]
    refine ⟨h.nd,by simp,?_⟩
    intro a ha b hb
    simp only [List.map_cons,List.map_nil,List.mem_singleton] at hb
    obtain ⟨x,hx,rfl⟩:=List.mem_map.1 ha
    have:=h.lo x hx
    omega
   below:=hb7.trans (ho.old (by omega) hb7.size) }
set_option maxRecDepth 100000 in
set_option maxHeartbeats 8000000 in
theorem new_any (VN:List ByteArray) (AN:List Nd) (v0 v1:Value) (w:World) (base0 base1:Nat) (h0:w.ownsRow base0 9 1 v0 VN.length (cellsT VN)) (h1:w.ownsRow base1 104 2 v1 AN.length (cellsD AN)) (hV:VN.length≤32) (hA:AN.length≤16) (hsz:∀ x ∈ AN,0≤dSz x∧dSz x≤1024) (hn0:∀ x ∈ VN,x.size≤maxLen) (hn1:∀ x ∈ AN,(dNm x).size≤maxLen) :
    Calls Tryz.prog 27 #[v0,v1] w (NewTo w VN AN):=by
 obtain ⟨a0,c0,rfl,hlc0,hrow0⟩:=own_str h0
 obtain ⟨a1,c1,rfl,hlc1,hrow1⟩:=own_cells h1
 obtain ⟨G,hG⟩:∃ G,w.heap.size=G:=⟨_,rfl⟩
 obtain ⟨W1,hW1⟩:∃ W1,w.alloc (.map #[] 0)=W1:=⟨_,rfl⟩
 have hm1:OwnM W1 G 0 (mapP []):=by rw [← hW1,← hG];exact World.ownsMap_made (H:=Unit) w Tryz.prog 9 (plainElem Tryz.prog 3)
 have hs1:W1.heap.size=G+1:=by rw [← hW1,World.size_alloc,hG]
 have hb1:Below w.heap.size w W1:=by rw [← hW1];exact (Below.refl _ w).alloc (Nat.le_refl _) _
 obtain ⟨W2,hW2⟩:∃ W2,W1.alloc (.cells #[.map (some G),.slice none 0 0,.int .i64 0,.int .i64 0,.int .i64 0,.int .i64 0,.slice none 0 0,.slice none 0 0,.slice none 0 0] 84)=W2:=⟨_,rfl⟩
 have hm2:OwnM W2 G 0 (mapP []):=by rw [← hW2];exact hm1.alloc _
 have hx2:Blk W2 (G+1) #[.map (some G),.slice none 0 0,.int .i64 0,.int .i64 0,.int .i64 0,.int .i64 0,.slice none 0 0,.slice none 0 0,.slice none 0 0] 84:=by rw [← hW2,← hs1];exact Blk.new W1 _ _
 have hb2:Below w.heap.size w W2:=by rw [← hW2];exact hb1.alloc hb1.size _
 obtain ⟨M,hM⟩:∃ M,G+1=M:=⟨_,rfl⟩
 rw [hM] at hx2
 have HS1:=Lib.hid hs1;clear hs1
 have HW1:=Lib.hid hW1;clear hW1
 have HW2:=Lib.hid hW2;clear hW2
 have HGE:=Lib.hid hG;clear hG
 have HM2:=Lib.hid (And.intro hm2 (And.intro hx2 hb2));clear hm1 hm2 hx2 hb1 hb2
 have HR0:=Lib.hid hrow0;clear hrow0 h0
 have HR1:=Lib.hid hrow1;clear hrow1 h1
 have HM:=Lib.hid hM;clear hM
 have HSZ:=Lib.hid (And.intro hsz (And.intro hn0 hn1));clear hsz hn0 hn1
 have hmm:=@run_makeMap Tryz.prog
 go_enter Tryz.func27,Tryz.ntmps27
 go_upto_block 0 with fail
 rw [HGE.out,HM.out,HW1.out,HW2.out]
 go_wp2_with fail
 go_loopw [15] (fun x wr=>∃ (i:Nat),x=.int .i64 i∧i≤VN.length∧OwnM wr G i (mapP ((pairsV VN).take i))∧Blk wr M #[.map (some G),.slice none 0 0,.int .i64 0,.int .i64 0,.int .i64 0,.int .i64 0,.slice none 0 0,.slice none 0 0,.slice none 0 0] 84∧Below w.heap.size w wr) (fun x _=>VN.length - (intOf x).toNat)
 case atStart=>exact ⟨0,rfl,by omega,by rw [List.take_zero];exact HM2.out.1,HM2.out.2.1,HM2.out.2.2⟩
 case round =>
  obtain ⟨i,rfl,hi,hMr,hXr,hBr⟩:=hrel
  clear HM2
  by_cases hlt:i < VN.length
  · have hbi:(i:Int)+1≤9223372036854775807:=by omega
    obtain ⟨g,rfl,hrow⟩:=HR0.out.resolve_left (by omega)
    have k0:=(hBr.cell (p:=⟨g,i,none⟩) (World.block_lt_of_cell? w _ (hrow i hlt))).trans (hrow i hlt)
    have m0:wr.cell? ⟨M,0,none⟩=some (.map (some G)):=hXr.cell 0
    obtain ⟨w5,hrun,hown5,hgrow5⟩:=upd_any hMr (by unfold maxLen;omega) VN[i] (HSZ.out.2.1 _ (List.getElem_mem hlt)) i (by omega)
    have hMG:M ≠ G:=by have:=HM.out;omega
    have hX5:=blk_grown hXr hgrow5 (fun e=>hMG (by simpa using e.symm))
    have hB5:=below_grown hBr hBr.size hgrow5 (fun q hq=>by have:=HGE.out;simp only [Option.some.injEq] at hq;omega)
    rw [← mapP_snoc _ (VN[i],i),← pairsV_at VN i hlt] at hown5
    have H5:=Lib.hid (And.intro hown5 (And.intro hX5 hB5))
    obtain ⟨NM,hNM⟩:∃ x,VN[i]=x:=⟨_,rfl⟩
    rw [hNM] at k0 hrun
    clear hown5 hX5 hB5 hgrow5 hMr hXr hBr hrow hNM
    go_wp2_with fail
    go_roundw
    case rel=>exact ⟨i+1,by go_num,by omega,H5.out.1,H5.out.2.1,H5.out.2.2⟩
    case measure=>simp [intOf];omega
  · obtain rfl:i=VN.length:=by omega
    clear hmm hlt hi HR0
    rw [List.take_of_length_le (by simp [pairsV])] at hMr
    have m7:wr.cell? ⟨M,7,none⟩=some (.slice none 0 0):=hXr.cell 7
    have f7:=hXr.free 7
    have hMlt:=hXr.lt
    obtain ⟨vb,hvb⟩:∃ b,wr.heap.size=b:=⟨_,rfl⟩
    have hmk:=make_ints VN.length (by omega) wr
    rw [hvb] at hmk
    obtain ⟨W3,hW3⟩:∃ W3,wr.alloc (.cells (intsV (List.replicate VN.length 0)) 2)=W3:=⟨_,rfl⟩
    have n7:W3.cell? ⟨M,7,none⟩=some (.slice none 0 0):=by rw [← hW3];exact (hXr.alloc _).cell 7
    have g7:W3.frozen? ⟨M,7,none⟩=false:=by rw [← hW3];exact (hXr.alloc _).free 7
    rw [hW3] at hmk
    have hN:NewIn w G M vb VN AN 0 (.slice none 0 0) [] (W3.setCell ⟨M,7,none⟩ (.slice (some ⟨vb,0,none⟩) VN.length VN.length)):=by
     have ho:Only M W3 (W3.setCell ⟨M,7,none⟩ (.slice (some ⟨vb,0,none⟩) VN.length VN.length)):=(Only.refl M W3).setCell (p:=⟨M,7,none⟩) rfl _
     have hMG:G ≠ M:=by have:=HM.out;omega
     exact
     { map:=by rw [List.take_zero,List.append_nil];exact ownsMap_only (by rw [← hW3];exact hMr.alloc _) ho hMG
       mach:=by
        have h3:=hXr.alloc (.cells (intsV (List.replicate VN.length 0)) 2)
        rw [hW3] at h3
        exact h3.set 7 _
       vars:=by
        have h3:Blk W3 vb (intsV (List.replicate VN.length 0)) 2:=by rw [← hW3,← hvb];exact Blk.new wr _ _
        exact h3.only ho (by omega)
       row:=World.ownsRow_nil _ _ _ _
       len:=rfl
       abl:=rfl
       blk:=fun j h=>by simp at h
       lo:=fun x h=>by cases h
       nr:=fun x h=>by cases h
       nd:=List.nodup_nil
       below:=by
        have h3:Below w.heap.size w W3:=by rw [← hW3];exact hBr.alloc hBr.size _
        exact h3.trans (ho.old (by have:=HM.out;have:=HGE.out;omega) h3.size) }
    have HN:=Lib.hid hN
    have HVB:=Lib.hid (show M < vb by omega)
    have HW3:=Lib.hid hW3
    clear hN hMr hXr hBr hvb hW3 hMlt
    go_upto_region 8 with fail
    obtain ⟨wo,hwo⟩:∃ x,x=wr:=⟨_,rfl⟩
    subst hwo
    clear HW1 HW2 HS1 HW3 m7 f7 n7 g7 hmk
    go_wp2_with fail
    go_loopw [36] (fun x wr=>∃ (i:Nat) (va:Value) (ab:List (Nat × Nat)),x=.int .i64 i∧i≤AN.length∧NewIn w G M vb VN AN i va ab wr) (fun x _=>AN.length - (intOf x).toNat)
    case atStart=>exact ⟨0,_,_,rfl,by omega,HN.out⟩
    case round =>
     obtain ⟨i,va,ab,rfl,hi,hNr⟩:=hrel
     clear HN
     have HN:=Lib.hid hNr
     clear hNr
     by_cases hlt:i < AN.length
     · have hbi:(i:Int)+1≤9223372036854775807:=by omega
       obtain ⟨g,rfl,hrow⟩:=HR1.out.resolve_left (by omega)
       obtain ⟨c0,c1'⟩:=cellsD_at AN i hlt
       have d0:=hrow _ _ c0
       have d1:=hrow _ _ c1'
       have hglt:=World.block_lt_of_cell? w _ d0
       have d0:=(HN.out.below.cell (p:=⟨g,i * 2,none⟩) hglt).trans d0
       have d1:=(HN.out.below.cell (p:=⟨g,i * 2+1,none⟩) hglt).trans d1
       obtain ⟨hs0,hs1⟩:=HSZ.out.1 _ (List.getElem_mem hlt)
       have hnz:=HSZ.out.2.2 _ (List.getElem_mem hlt)
       obtain ⟨z,hz⟩:∃ z:Nat,dSz AN[i]=(z:Int):=⟨(dSz AN[i]).toNat,by omega⟩
       have hzz:zerosA AN[i]=z:=by unfold zerosA;omega
       obtain ⟨W4,hW4⟩:∃ W4,wr.alloc (.cells #[.string (dNm AN[i]),.int .i64 z] 104)=W4:=⟨_,rfl⟩
       obtain ⟨X,hX⟩:∃ X,wr.heap.size=X:=⟨_,rfl⟩
       have hx4:Blk W4 X #[.string (dNm AN[i]),.int .i64 z] 104:=by rw [← hW4,← hX];exact Blk.new wr _ _
       have hM4:=HN.out.mach.alloc (.cells #[.string (dNm AN[i]),.int .i64 z] 104)
       have hm4:=HN.out.map.alloc (.cells #[.string (dNm AN[i]),.int .i64 z] 104)
       rw [hW4] at hM4 hm4
       obtain ⟨w5,hrun,hown5,hgrow5⟩:=upd_any (w:=W4.drew) (World.ownsMap.drew hm4) (by unfold maxLen;omega) (dNm AN[i]) hnz i (by omega)
       have hMG:M ≠ G:=by have:=HM.out;omega
       have hXG:X ≠ G:=by have:=HN.out.mach.lt;have:=HM.out;omega
       have hx5:=blk_grown (show Blk W4.drew X _ _ from hx4) hgrow5 (fun e=>hXG (by simpa using e.symm))
       have hM5:=blk_grown (show Blk W4.drew M _ _ from hM4) hgrow5 (fun e=>hMG (by simpa using e.symm))
       have hr4:W4.drew.ownsRow (vb+1) 42 1 va i (ab.map rowV):=by rw [← hW4];exact (HN.out.row.alloc _).drew
       have hr5:=hr4.kept hgrow5 (by
        cases hv:va.ownBlock with
        | none=>exact .inl rfl
        | some q=>exact .inr (fun e=>by have:=(HN.out.row.lt q hv).1;have:=HVB.out;have:=HM.out;simp only [Option.some.injEq] at e;omega))
       have hmk:=make_ints z (by omega)
       have a0:W4.cell? ⟨M,0,none⟩=some (.map (some G)):=hM4.cell 0
       have b0:W4.cell? ⟨X,0,none⟩=some (.string (dNm AN[i])):=hx4.cell 0
       have b1:w5.cell? ⟨X,1,none⟩=some (.int .i64 z):=hx5.cell 1
       have a8:w5.cell? ⟨M,8,none⟩=some va:=hM5.cell 8
       have a9:(w5.alloc (.cells (intsV (List.replicate z 0)) 2)).cell? ⟨M,8,none⟩=some va:=(hM5.alloc _).cell 8
       have a10:((w5.alloc (.cells (intsV (List.replicate z 0)) 2)).alloc (.cells #[.slice (some ⟨w5.heap.size,0,none⟩) z z] 42)).cell? ⟨M,8,none⟩=some va:=((hM5.alloc _).alloc _).cell 8
       obtain ⟨i0,hi0,hz0,hz1,hz2⟩:=info_parts info_arows
       have hsz5:wr.heap.size < w5.heap.size:=by have:=hgrow5.size;rw [← hW4] at this;have e:(World.drew (wr.alloc (.cells #[.string (dNm AN[i]),.int .i64 z] 104))).heap.size=wr.heap.size+1:=World.size_alloc _ _;omega
       have hvbs:=HN.out.vars.lt
       have HI0:=Lib.hid hi0
       have HZ0:=Lib.hid hz0
       have HZ1:=Lib.hid hz1
       have HZ2:=Lib.hid hz2
       have HR5:=Lib.hid hr5
       have HM5:=Lib.hid hM5
       have HW4:=Lib.hid hW4
       have HXX:=Lib.hid hX
       have H5:=Lib.hid (And.intro hown5 (And.intro hgrow5 hzz))
       have HS5:=Lib.hid (And.intro hsz5 hvbs)
       rw [hz] at d1
       obtain ⟨NM,hNM⟩:∃ x,dNm AN[i]=x:=⟨_,rfl⟩
       rw [hNM] at d0 b0 hrun
       have HNM:=Lib.hid hNM
       clear hi0 hz0 hz1 hz2 hr5 hM5 hW4 hX hown5 hgrow5 hzz hsz5 hvbs hx4 hM4 hm4 hr4 hx5 hs0 hs1 hnz hz hrow c0 c1' hglt hNM hMG hXG HR1
       go_upto_region 11 with fail
       rw [← HNM.out,HW4.out,HXX.out]
       rw [← HNM.out] at b0 hrun
       go_region
       go_upto_region 12 with fail
       have hMva:va.ownBlock ≠ some M:=fun e=>by have:=(HR5.out.lt _ e).1;have:=HVB.out;omega
       go_region_law
        (refine step_append_lies _ (by rfl) _ _ _ (by rfl) (vb+1) 42 i0 _ 1 24 Tryz.underlying45 HI0.out HZ0.out HZ1.out HZ2.out rfl (by omega) va i (ab.map rowV) (by rfl) ((HR5.out.drew.alloc _).alloc _) ⟨w5.heap.size+1,0,none⟩ 1 1 [.slice (some ⟨w5.heap.size,0,none⟩) z z] (by rfl) (by rfl) (World.news_of_block (cs:=#[.slice (some ⟨w5.heap.size,0,none⟩) z z]) (t:=42) (fr:=(0,0)) (by have h:=heap_alloc_new (w5.drew.alloc (.cells (intsV (List.replicate z 0)) 2)) (.cells #[.slice (some ⟨w5.heap.size,0,none⟩) z z] 42);rw [World.size_alloc] at h;exact h)) (fun u hu=>by rw [List.mem_singleton.1 hu];rfl) (by omega) (by unfold maxLen;omega) (by omega) (by have:=HS5.out;simp;omega) (w5.heap.size+2) (by simp) ?_
         intro gg cap w7 hown7 hgrow7 hat7 hlt7
         have q8:w7.cell? ⟨M,8,none⟩=some va:=(blk_grown ((((show Blk w5.drew M _ _ from HM5.out).alloc _).alloc _)) hgrow7 hMva).cell 8
         have z8:w7.frozen? ⟨M,8,none⟩=false:=(blk_grown ((((show Blk w5.drew M _ _ from HM5.out).alloc _).alloc _)) hgrow7 hMva).free 8)
       all_goals
        have hnext:=HN.out.next (by have:=HGE.out;omega) (by have:=HM.out;omega) HVB.out hlt H5.out.2.2 (o4:=.cells #[.string (dNm AN[i]),.int .i64 z] 104) (by rw [HW4.out];exact grown_undrew H5.out.2.1) H5.out.1 (grown_undrew (w:=(w5.alloc (.cells (intsV (List.replicate z 0)) 2)).alloc (.cells #[.slice (some ⟨w5.heap.size,0,none⟩) z z] 42)) hgrow7) hown7 hat7
        have HNX:=Lib.hid hnext
        clear hnext hown7 hgrow7 hat7
        go_wp2_with fail
        go_roundw
        case rel=>exact ⟨i+1,_,_,by go_num,by omega,HNX.out⟩
        case measure=>simp [intOf];omega
     · obtain rfl:i=AN.length:=by omega
       go_wp2_with fail
       go_ret
       exact HN.out.done HGE.out HM.out HVB.out hV hA HSZ.out.1
end Go.Proofs.YtmohmggnjldddaaGreatDoor
