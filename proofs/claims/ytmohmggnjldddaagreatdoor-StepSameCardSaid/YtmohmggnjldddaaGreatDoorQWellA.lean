/-
  The project's Arrays (package well): proved is what it tells of a program that lies in memory, in a list of its own, and that it turns nothing that lay.
-/
import Derived.Test.YtmohmggnjldddaaGreatDoorQWellP
import Derived.Test.YtmohmggnjldddaaGreatDoorQCheckR
import Derived.BigQuiet
import Derived.Test.YtmohmggnjldddaaGreatDoorQUsesC
import Derived.Deep.RegionHeld3
import Derived.Deep.RegionLaw
namespace Go.Proofs.YtmohmggnjldddaaGreatDoor
open Go Go.RowKit
def StrsIn (w:World) (l:List ByteArray) (v:Value):Prop:=∃ a c,v=.slice a l.length c∧l.length≤c∧(l.length=0 ∨ ∃ g o,a=some ⟨g,o,none⟩∧∀ i (hi:i < l.length),w.cell? ⟨g,o+i,none⟩=some (.string l[i]))
theorem strs_own {w:World} {base:Nat} {v:Value} {l:List ByteArray} (h:w.ownsRow base 9 1 v l.length (cellsT l)):StrsIn w l v:=by
 obtain ⟨a,c,h1,h2,h3⟩:=own_str h
 exact ⟨a,c,h1,h2,h3.imp id fun ⟨g,hg,hc⟩=>⟨g,0,hg,fun i hi=>by rw [Nat.zero_add];exact hc i hi⟩⟩
theorem StrsIn.keep {w w':World} {l:List ByteArray} {v:Value} (h:StrsIn w l v) (hb:Below w.heap.size w w'):StrsIn w' l v:=by
 obtain ⟨a,c,h1,h2,h3⟩:=h
 exact ⟨a,c,h1,h2,h3.imp id fun ⟨g,o,hg,hc⟩=>⟨g,o,hg,fun i hi=>(hb.cell (p:=⟨g,o+i,none⟩) (World.block_lt_of_cell? w ⟨g,o+i,none⟩ (hc i hi))).trans (hc i hi)⟩⟩
theorem nmsOf_cons (x:Nd) (l:List Nd):nmsOf (x :: l)=(if mustN x then [ownNm x] else []) ++ nmsOf l:=by
 unfold nmsOf
 cases h:mustN x <;> simp [h]
theorem headU_fst (nm:ByteArray) (a b:Bool):(headU nm a b).map Prod.fst=if (a || b) then [nm] else []:=by
 unfold headU
 split <;> simp_all
mutual
theorem nms_N:∀ (x:Nd),(∀ y ∈ allN x,y.ty ≠ .D)→nmsOf (allN x)=(usesN x).map Prod.fst
 | .mk ty k n nm xs cs ts es,h=>by
   cases ty with
   | E =>
     unfold allN at h ⊢
     have hx:=nms_L xs (fun y hy=>h y (by simp [hy]))
     unfold usesN
     simp only [nmsOf_cons,List.map_append,headU_fst,hx]
     simp [mustN,ownNm]
   | C =>
     unfold allN at h ⊢
     have hx:=nms_L xs (fun y hy=>h y (by simp [hy]))
     have hc:=nms_L cs (fun y hy=>h y (by simp [hy]))
     unfold usesN
     simp only [nmsOf_cons,nmsOf_app,List.map_append,hx,hc]
     simp [mustN]
   | S =>
     unfold allN at h ⊢
     have hx:=nms_L xs (fun y hy=>h y (by simp [hy]))
     have hc:=nms_L cs (fun y hy=>h y (by simp [hy]))
     have ht:=nms_L ts (fun y hy=>h y (by simp [hy]))
     have he:=nms_L es (fun y hy=>h y (by simp [hy]))
     unfold usesN
     simp only [nmsOf_cons,nmsOf_app,List.map_append,headU_fst,hx,hc,ht,he]
     simp [mustN,ownNm]
   | D =>
     unfold allN at h
     exact absurd rfl (h _ (List.mem_cons_self ..))
theorem nms_L:∀ (l:List Nd),(∀ y ∈ allL l,y.ty ≠ .D)→nmsOf (allL l)=(usesL l).map Prod.fst
 | [],_=>by unfold allL usesL;rfl
 | x :: r,h=>by
   unfold allL at h ⊢
   unfold usesL
   rw [nmsOf_app,List.map_append,nms_N x (fun y hy=>h y (by simp [hy])),nms_L r (fun y hy=>h y (by simp [hy]))]
end
theorem nms_D:∀ (ds:List Nd),fitL .D ds→nmsOf (allL ds)=ds.map ownNm
 | [],_=>by unfold allL;rfl
 | x :: r,h=>by
   unfold fitL at h
   obtain ⟨hty,hx,hr⟩:=h
   obtain ⟨ty,k,n,nm,xs,cs,ts,es⟩:=x
   simp only [Nd.ty] at hty
   subst hty
   unfold fitN at hx
   obtain ⟨⟨rfl,rfl,rfl,rfl,rfl⟩,-⟩:=hx
   unfold allL
   rw [nmsOf_app,nms_D r hr,List.map_cons]
   have e:allN (.mk .D 0 n nm [] [] [] [])=[.mk .D 0 n nm [] [] [] []]:=by
    unfold allN
    simp
   rw [e,nmsOf_cons]
   simp [mustN,ownNm,nmsOf]
theorem names_few {ds ss:List Nd} (hd:fitL .D ds) (hs:∀ y ∈ allL ss,y.ty ≠ .D) (hz:(progT ds ss).lim=0):ds.length+(usesL ss).length≤4096:=by
 have h:=(progT_ok ds ss).1
 rw [progT_list hz,allL_app,List.length_append] at h
 have h1:=congrArg List.length (nms_D ds hd)
 have h2:=congrArg List.length (nms_L ss hs)
 have h3:∀ l,(nmsOf l).length≤l.length:=fun l=>by unfold nmsOf;rw [List.length_map];exact List.length_filter_le ..
 have h4:=h3 (allL ds)
 have h5:=h3 (allL ss)
 simp only [List.length_map] at h1 h2
 omega
theorem fault_lim {t:Tr} (h:faultT t=0):t.lim=0:=by
 unfold faultT at h
 split at h
 · exact h
 · rename_i hn
   simpa using hn
open Go Go.RowKit Go.Maps
def wellP (ds ss:List Nd):ByteArray × Int:=if faultT (progT ds ss) ≠ 0 then (⟨#[]⟩,faultT (progT ds ss)) else if (declW [] ds).2 ≠ 0 then declW [] ds else badU (lookL ds) (usesL ss)
theorem nms_sz {ds ss:List Nd} (hd:fitL .D ds) (hs:∀ y ∈ allL ss,y.ty ≠ .D) (hz:faultT (progT ds ss)=0):(∀ x ∈ ds,(ownNm x).size≤128)∧(∀ u ∈ usesL ss,u.1.size≤128):=by
 have h:=fault_names hz
 rw [progT_list (fault_lim hz),allL_app] at h
 have h1:∀ n ∈ nmsOf (allL ds ++ allL ss),n.size≤128:=by
  intro n hn
  unfold nmsOf at hn
  obtain ⟨x,hx,rfl⟩:=List.mem_map.1 hn
  obtain ⟨h2,h3⟩:=List.mem_filter.1 hx
  exact h x h2 h3
 rw [nmsOf_app,nms_D ds hd,nms_L ss hs] at h1
 exact ⟨fun x hx=>h1 _ (List.mem_append_left _ (List.mem_map_of_mem hx)),fun u hu=>h1 _ (List.mem_append_right _ (List.mem_map_of_mem hu))⟩
theorem dNm_own {x:Nd} (h:x.ty=.D):dNm x=ownNm x:=by
 obtain ⟨ty,k,n,s,xs,cs,ts,es⟩:=x
 simp only [Nd.ty] at h
 subst h
 rfl
theorem declW_sz (k:Nat):∀ (r p:List Nd),(∀ x ∈ r,(dNm x).size≤k)→(declW p r).1.size≤k
 | [],_,_=>Nat.zero_le _
 | x :: r,p,h=>by
   rw [declW]
   split
   · exact h x List.mem_cons_self
   · exact declW_sz k r _ (fun y hy=>h y (List.mem_cons_of_mem _ hy))
theorem badU_sz (f:ByteArray→Int) (k:Nat):∀ (l:List Us),(∀ u ∈ l,u.1.size≤k)→(badU f l).1.size≤k
 | [],_=>Nat.zero_le _
 | x :: r,h=>by
   rw [badU]
   split
   · exact h x List.mem_cons_self
   · split
     · exact badU_sz f k r (fun y hy=>h y (List.mem_cons_of_mem _ hy))
     · exact h x List.mem_cons_self
theorem flat_le_sl {w:World} {l:List Nd} {v:Value} (hL:∀ b o,RowIn w .S l b o→(flatL l).length≤(allL l).length) (h:SlOf l.length (fun b o=>RowIn w .S l b o) v):(flatL l).length≤(allL l).length:=by
 obtain ⟨a,c,_,_,_,h0 | ⟨b,o,_,hr⟩⟩:=h
 · obtain rfl:=List.eq_nil_of_length_eq_zero h0
   rw [flatL]
   exact Nat.zero_le _
 · exact hL b o hr
mutual
theorem flat_le_N (w:World):∀ (x:Nd) (vs:List Value),NdIn w x vs→x.ty=.S→(flatN x).length≤(allN x).length
 | .mk ty k n nm xs cs ts es,vs,h,hty=>by
   simp only [Nd.ty] at hty
   subst hty
   unfold NdIn at h
   obtain ⟨_,_,_,_,vx,vc,vt,ve,_,_,_,ht,he⟩:=h
   have h3:=flat_le_sl (flat_le_L w ts) ht
   have h4:=flat_le_sl (flat_le_L w es) he
   unfold flatN allN
   simp only [List.length_cons,List.length_append]
   omega
theorem flat_le_L (w:World):∀ (l:List Nd) (b o:Nat),RowIn w .S l b o→(flatL l).length≤(allL l).length
 | [],_,_,_=>by rw [flatL];exact Nat.zero_le _
 | x :: r,b,o,h=>by
   unfold RowIn at h
   obtain ⟨⟨h1,vs,_,h2⟩,h3⟩:=h
   have h4:=flat_le_N w x vs h2 h1
   have h5:=flat_le_L w r _ _ h3
   rw [flatL,allL,List.length_append,List.length_append]
   omega
end
theorem flat_few {w:World} {ds ss:List Nd} {v:Value} (hs:SlIn w .S ss v) (hz:faultT (progT ds ss)=0):(flatL ss).length≤4096:=by
 have h:=(progT_ok ds ss).1
 rw [progT_list (fault_lim hz),allL_app,List.length_append] at h
 have h2:=flat_le_sl (flat_le_L w ss) hs
 omega
theorem wellP_sz {ds ss:List Nd} (hd:fitL .D ds) (hs:∀ y ∈ allL ss,y.ty ≠ .D):(wellP ds ss).1.size≤128:=by
 unfold wellP
 split
 · exact Nat.zero_le _
 · rename_i hz
   have hz:faultT (progT ds ss)=0:=by simpa using hz
   obtain ⟨h1,h2⟩:=nms_sz hd hs hz
   split
   · exact declW_sz 128 ds [] (fun x hx=>by rw [dNm_own (ty_of hd x hx)];exact h1 x hx)
   · exact badU_sz _ 128 _ h2
theorem clone_w (s:ByteArray) (w:World) (hs:s.size≤128):Calls Tryz.prog 36 #[.string s] w fun e w'=>e=.returned (.string s)∧Below w.heap.size w w':=clone_any s w (by omega)
theorem below_drew {w wA:World} (h:Below w.heap.size w wA):Below w.heap.size w wA.drew:=h.drew
theorem below_next {w wA w1:World} (h:Below w.heap.size w wA) (hb:Below wA.heap.size wA w1):Below w.heap.size w w1:=h.trans (hb.mono h.size)
theorem Blk.next {w w':World} {b:Nat} {cs:Array Value} {t:TypeId} (h:Blk w b cs t) (hb:Below w.heap.size w w'):Blk w' b cs t:=h.below hb h.lt
def LL (W:World) (l:List Nd) (a:Option Addr):Prop:=l.length=0 ∨ ∃ b wA,a=some ⟨b,0,none⟩∧CellsAre wA W l b 0
set_option maxRecDepth 100000 in
set_option maxHeartbeats 8000000 in
theorem wcheck_any (ds ss:List Nd) (v0 v1:Value) (w:World) (hd:SlIn w .D ds v0) (hs:SlIn w .S ss v1) :
    Calls Tryz.prog 34 #[.agg #[v0,v1]] w (fun e w'=>e=.returned (.tuple #[.string (wellP ds ss).1,.int .i64 (wellP ds ss).2])∧Below w.heap.size w w'):=by
 have hfd:=fit_list hd
 have hnd:=noD_list hs
 have hsz:=wellP_sz hfd hnd
 have htc:=fun w1 (hb:Below w.heap.size w w1)=>tcheck_any ds ss v0 v1 w1 (hd.keep (keeps_below hb)) (hs.keep (keeps_below hb))
 have hde:=fun w1 M (hb:Below w.heap.size w w1) (hM:w.heap.size≤M) hm=>declare_any w ds v0 w1 M hd hb hM hm
 have hmi:=fun (hz:faultT (progT ds ss)=0) w1 M n (hb:Below w.heap.size w w1) hm=>misused_any w ds ss v1 w1 M n hs hb hm (Nat.le_trans (flat_few hs hz) (by omega)) (by have:=names_few hfd hnd (fault_lim hz);omega)
 unfold DeclTo at hde
 obtain ⟨POST,hPOST⟩:∃ p,wellP ds ss=p:=⟨_,rfl⟩
 rw [hPOST] at hsz ⊢
 unfold wellP at hPOST
 obtain ⟨FT,hFT⟩:∃ FT,faultT (progT ds ss)=FT:=⟨_,rfl⟩
 simp only [hFT] at htc hmi hPOST
 obtain ⟨⟨dn,de⟩,hDW⟩:∃ p,declW [] ds=p:=⟨_,rfl⟩
 rw [hDW] at hPOST
 simp only [hDW] at hde
 obtain ⟨⟨un,ue⟩,hBU⟩:∃ p,badU (lookL ds) (usesL ss)=p:=⟨_,rfl⟩
 rw [hBU] at hPOST
 simp only [hBU] at hmi
 clear hFT hDW hBU hfd hnd
 obtain ⟨a0,c0,rfl,-⟩:=hd
 obtain ⟨a1,c1,rfl,-⟩:=hs
 obtain ⟨W1,hW1⟩:∃ W1,w.alloc (.cells #[.slice a0 ds.length c0,.slice a1 ss.length c1] 25)=W1:=⟨_,rfl⟩
 have hal:Below w.heap.size w W1:=by rw [← hW1];exact (Below.refl _ w).alloc (Nat.le_refl _) _
 have hX1:Blk W1 w.heap.size #[.slice a0 ds.length c0,.slice a1 ss.length c1] 25:=by rw [← hW1];exact Blk.new w _ _
 have x0:W1.cell? ⟨w.heap.size,0,none⟩=some (.slice a0 ds.length c0):=hX1.cell 0
 have y0:W1.cell? ⟨w.heap.size,1,none⟩=some (.slice a1 ss.length c1):=hX1.cell 1
 have HT:=Lib.hid (htc W1 hal);clear htc
 have HX1:=Lib.hid hX1;clear hX1
 have HAL:=Lib.hid hal;clear hal
 have HW1:=Lib.hid hW1;clear hW1
 have HDE:=Lib.hid hde;clear hde
 have HMI:=Lib.hid hmi;clear hmi
 have HPOST:=Lib.hid hPOST;clear hPOST
 have hmm:=@run_makeMap Tryz.prog
 go_enter Tryz.func34,Tryz.ntmps34
 go_upto_region 1 with fail
 rw [HW1.out]
 clear HW1
 by_cases hz:FT=0
 · subst hz
   go_wp2_with (first | (go_at_call 52;(with_reducible refine HT.out.mono ?_);rintro e w2 ⟨rfl,hb2⟩;have HX2:=Lib.hid (HX1.out.below hb2 HX1.out.lt);have HB2:=Lib.hid (below_next HAL.out hb2);have x2:=((HX1.out.below hb2 HX1.out.lt).alloc (.map #[] 0)).cell 0;simp at x2;clear hb2) | fail)
   clear x0 y0 HT HX1 HAL x2
   obtain ⟨W3,hW3⟩:∃ W,w2.alloc (.map #[] 0)=W:=⟨_,rfl⟩
   obtain ⟨M,hM⟩:∃ M,w2.heap.size=M:=⟨_,rfl⟩
   have hmap:OwnM W3 M 0 (mapD []):=by rw [← hW3,← hM];exact World.ownsMap_made (H:=Unit) w2 Tryz.prog 9 (plainElem Tryz.prog 3)
   have hb3:Below w.heap.size w W3:=by rw [← hW3];exact HB2.out.alloc HB2.out.size _
   have hX3:Blk W3 w.heap.size #[.slice a0 ds.length c0,.slice a1 ss.length c1] 25:=by rw [← hW3];exact HX2.out.alloc _
   have hMw:w.heap.size < M:=by rw [← hM];exact HX2.out.lt
   rw [hW3,hM]
   have HC:=Lib.hid (HDE.out W3 M hb3 (by omega) hmap)
   have HX3:=Lib.hid hX3;clear hX3
   have HB3:=Lib.hid hb3;clear hb3 hW3 hM hmap HDE HB2 HX2 hmm
   refine HC.out.mono ?_
   rintro e w4 ⟨rfl,hg4,hmap4⟩
   have hG4:Gr (some M) (some M) W3 w4:=⟨hg4,.inl rfl⟩
   have hX4:Blk w4 w.heap.size #[.slice a0 ds.length c0,.slice a1 ss.length c1] 25:=HX3.out.gr hG4 (fun e=>by cases e;omega)
   have hb4:Below w.heap.size w w4:=HB3.out.trans (hG4.old HB3.out.size (fun g hg=>by cases hg;omega))
   have y4:w4.cell? ⟨w.heap.size,1,none⟩=some (.slice a1 ss.length c1):=hX4.cell 1
   have HB4:=Lib.hid hb4;clear hb4
   have HMAP4:=Lib.hid hmap4;clear hmap4
   clear hg4 hG4 hX4 HX3 HB3 HC
   by_cases hd0:de=0
   · subst hd0
     have hp:POST=(un,ue):=by rw [← HPOST.out,if_neg (by simp),if_neg (by simp)]
     rw [hp] at hsz
     have HP:=Lib.hid hp;clear hp HPOST
     have HC:=Lib.hid (HMI.out (by simp) w4 M ds.length HB4.out (HMAP4.out rfl));clear HMI HMAP4
     go_wp2_with fail
     refine HC.out.mono ?_
     rintro e w5 ⟨rfl,hb5⟩
     have HB5:=Lib.hid (below_next HB4.out hb5);clear hb5
     go_wp2_with (first | (go_at_call 36;(with_reducible refine (clone_w _ _ hsz).mono ?_);rintro e w6 ⟨rfl,hb6⟩;have HB6:=Lib.hid (below_next HB5.out hb6);clear hb6) | fail)
     go_ret2
     exact ⟨by rw [HP.out];rfl,HB6.out⟩
   · have hd1:(de == 0)=false:=by simpa using hd0
     have hp:POST=(dn,de):=by rw [← HPOST.out,if_neg (by simp),if_pos hd0]
     rw [hp] at hsz
     have HP:=Lib.hid hp;clear hp HPOST hd0 HMI HMAP4
     go_wp2_with (first | (go_at_call 36;(with_reducible refine (clone_w _ _ hsz).mono ?_);rintro e w6 ⟨rfl,hb6⟩;have HB6:=Lib.hid (below_next HB4.out hb6);clear hb6) | fail)
     go_ret2
     exact ⟨by rw [HP.out];rfl,HB6.out⟩
 · have hz1:(FT != 0)=true:=by simpa using hz
   have hp:POST=(⟨#[]⟩,FT):=by rw [← HPOST.out,if_pos hz]
   have HP:=Lib.hid hp;clear hp HPOST hz HDE HMI hmm
   go_wp2_with (first | (go_at_call 52;(with_reducible refine HT.out.mono ?_);rintro e w2 ⟨rfl,hb2⟩;have HB2:=Lib.hid (below_next HAL.out hb2);clear hb2) | fail)
   go_ret2
   exact ⟨by rw [HP.out];rfl,HB2.out⟩
def varsL (l:List Nd):List ByteArray:=(l.filter (fun x=>dSz x == 0)).map dNm
def arrsL (l:List Nd):List Nd:=l.filter (fun x=>!(dSz x == 0))
theorem varsL_take {l:List Nd} {i:Nat} (hi:i < l.length):varsL (l.take (i+1))=varsL (l.take i) ++ (if dSz l[i] == 0 then [dNm l[i]] else []):=by
 unfold varsL
 rw [← List.take_append_getElem hi,List.filter_append,List.map_append]
 congr 1
 cases h:(dSz l[i] == 0) <;> simp [h]
theorem arrsL_take {l:List Nd} {i:Nat} (hi:i < l.length):arrsL (l.take (i+1))=arrsL (l.take i) ++ (if dSz l[i] == 0 then [] else [l[i]]):=by
 unfold arrsL
 rw [← List.take_append_getElem hi,List.filter_append]
 congr 1
 cases h:(dSz l[i] == 0) <;> simp [h]
theorem varsL_le (l:List Nd) (i:Nat):(varsL (l.take i)).length≤i:=by
 unfold varsL
 rw [List.length_map]
 have:=List.length_filter_le (fun x=>dSz x == 0) (l.take i)
 rw [List.length_take] at this
 omega
theorem arrsL_le (l:List Nd) (i:Nat):(arrsL (l.take i)).length≤i:=by
 unfold arrsL
 have:=List.length_filter_le (fun x=>!(dSz x == 0)) (l.take i)
 rw [List.length_take] at this
 omega
theorem wellP_ok {ds ss:List Nd} (h:(wellP ds ss).2=0):faultT (progT ds ss)=0∧(declW [] ds).2=0∧(badU (lookL ds) (usesL ss)).2=0:=by
 unfold wellP at h
 split at h
 · rename_i h1
   exact absurd h h1
 · rename_i h1
   split at h
   · rename_i h2
     exact absurd h h2
   · rename_i h2
     exact ⟨by simpa using h1,by simpa using h2,h⟩
def ListTo (w:World) (t:TypeId) (k:Nat) (f:Int) (n:Nat) (cs:List Value):Ending→World→Prop:=fun e w'=>∃ v',e=.returned (.tuple #[v',.int .i64 f])∧w'.ownsRow w.heap.size t k v' n cs∧Below w.heap.size w w'
set_option maxRecDepth 100000 in
set_option maxHeartbeats 8000000 in
theorem wvars_any (ds ss:List Nd) (v0 v1:Value) (w:World) (hd:SlIn w .D ds v0) (hs:SlIn w .S ss v1) :
    Calls Tryz.prog 14 #[.agg #[v0,v1]] w (ListTo w 9 1 (wellP ds ss).2 (if (wellP ds ss).2=0 then varsL ds else []).length (cellsT (if (wellP ds ss).2=0 then varsL ds else []))):=by
 have hfd:=fit_list hd
 have hnd:=noD_list hs
 have htc:=fun w1 (hb:Below w.heap.size w w1)=>wcheck_any ds ss v0 v1 w1 (hd.keep (keeps_below hb)) (hs.keep (keeps_below hb))
 have hnm:=fun h=>(nms_sz hfd hnd (wellP_ok (ds:=ds) (ss:=ss) h).1).1
 have hfew:=fun h=>names_few hfd hnd (fault_lim (wellP_ok (ds:=ds) (ss:=ss) h).1)
 unfold ListTo
 obtain ⟨⟨WN,WE⟩,hW⟩:∃ p,wellP ds ss=p:=⟨_,rfl⟩
 simp only [hW] at htc hnm hfew ⊢
 clear hW hnd
 obtain ⟨FIN,hFIN⟩:∃ l,(if WE=0 then varsL ds else [])=l:=⟨_,rfl⟩
 rw [hFIN]
 have HFIN:=Lib.hid hFIN;clear hFIN
 have HNM:=Lib.hid hnm;clear hnm
 have HFD:=Lib.hid hfd;clear hfd
 obtain ⟨a0,c0,rfl,hlc0,hcm0,hrow0⟩:=hd
 obtain ⟨a1,c1,rfl,-⟩:=hs
 have HROW:=Lib.hid hrow0;clear hrow0
 obtain ⟨W1,hW1⟩:∃ W1,w.alloc (.cells #[.slice a0 ds.length c0,.slice a1 ss.length c1] 25)=W1:=⟨_,rfl⟩
 have hal:Below w.heap.size w W1:=by rw [← hW1];exact (Below.refl _ w).alloc (Nat.le_refl _) _
 have hX1:Blk W1 w.heap.size #[.slice a0 ds.length c0,.slice a1 ss.length c1] 25:=by rw [← hW1];exact Blk.new w _ _
 have x0:W1.cell? ⟨w.heap.size,0,none⟩=some (.slice a0 ds.length c0):=hX1.cell 0
 have y0:W1.cell? ⟨w.heap.size,1,none⟩=some (.slice a1 ss.length c1):=hX1.cell 1
 have HT:=Lib.hid (htc W1 hal);clear htc
 have HX1:=Lib.hid hX1;clear hX1
 have HAL:=Lib.hid hal;clear hal
 have HW1:=Lib.hid hW1;clear hW1
 obtain ⟨i0,hi0,hz0,hz1,hz2⟩:=info_parts info_str
 have HI0:=Lib.hid hi0;clear hi0
 have HZ0:=Lib.hid hz0;clear hz0
 have HZ1:=Lib.hid hz1;clear hz1
 have HZ2:=Lib.hid hz2;clear hz2
 go_enter Tryz.func14,Tryz.ntmps14
 go_upto_region 1 with fail
 rw [HW1.out]
 clear HW1
 by_cases hz:WE=0
 · subst hz
   have hnm:=HNM.out (by simp);clear HNM
   have hdl:ds.length≤4096:=by have:=hfew (by simp);omega
   clear hfew
   have HNM:=Lib.hid hnm;clear hnm
   have hfin:=HFIN.out;clear HFIN
   rw [if_pos rfl] at hfin
   have HFIN:=Lib.hid hfin;clear hfin
   go_wp2_with (first | (go_at_call 34;(with_reducible refine HT.out.mono ?_);rintro e w2 ⟨rfl,hb2⟩;have HB2:=Lib.hid (below_next HAL.out hb2);have x2:=(HX1.out.below hb2 HX1.out.lt).cell 0;simp at x2;clear hb2) | fail)
   clear x0 y0 HT HX1 HAL x2
   go_loopw [6,20] (fun y x wr=>∃ (v:Value) (i:Nat),v=y∧x=.int .i64 i∧i≤ds.length∧wr.ownsRow w.heap.size 9 1 v (varsL (ds.take i)).length (cellsT (varsL (ds.take i)))∧Below w.heap.size w wr) (fun _ x _=>ds.length - (intOf x).toNat)
   case atStart=>exact ⟨.slice none 0 0,0,rfl,rfl,by omega,by rw [List.take_zero];exact World.ownsRow_nil _ _ _ _,HB2.out⟩
   case round =>
    obtain ⟨v,i,rfl,rfl,hi,hOr,hBr⟩:=hrel
    clear HB2
    have HO:=Lib.hid hOr;clear hOr
    have HB:=Lib.hid hBr;clear hBr
    by_cases hlt:i < ds.length
    · have hbi:(i:Int)+1≤9223372036854775807:=by unfold maxLen at hcm0;omega
      have hxl:¬ ds.length=0:=by omega
      obtain ⟨b,o,rfl,hrow⟩:=HROW.out.resolve_left hxl
      obtain ⟨hty,u0,u1,m0,m1,hnd⟩:=SlIn.item2 rfl hrow i hlt
      have kk:=keeps_below HB.out
      have g0:=kk _ _ _ m0
      have g1:=kk _ _ _ m1
      have hma:=varsL_take hlt
      have hle:=varsL_le ds i
      have hnx:=HNM.out ds[i] (List.getElem_mem hlt)
      clear m0 m1 kk hrow
      obtain ⟨X,hX⟩:∃ X,ds[i]=X:=⟨_,rfl⟩
      rw [hX] at hnd hty hma hnx
      clear hX
      obtain ⟨ty,k,n,nm,xs,cs,ts,es⟩:=X
      simp only [Nd.ty] at hty
      subst hty
      unfold NdIn at hnd
      obtain ⟨-,-,-,-,vx,vc,vt,ve,hvs,-⟩:=hnd
      simp only [lay,List.cons.injEq,and_true] at hvs
      obtain ⟨rfl,rfl⟩:=hvs
      have hdn:dNm (.mk .D k n nm xs cs ts es)=nm:=rfl
      have hds:dSz (.mk .D k n nm xs cs ts es)=n:=rfl
      rw [hds] at hma
      simp only [ownNm] at hnx
      obtain ⟨LB,hLB⟩:∃ l,varsL (ds.take i)=l:=⟨_,rfl⟩
      have hO:=HO.out;clear HO
      rw [hLB] at hO hma hle
      clear hLB
      obtain ⟨W2,hW2⟩:∃ W2,wr.alloc (.cells #[.string nm,.int .i64 n] 104)=W2:=⟨_,rfl⟩
      obtain ⟨BD,hBD⟩:∃ x,wr.heap.size=x:=⟨_,rfl⟩
      have hY2:Blk W2 BD #[.string nm,.int .i64 n] 104:=by rw [← hW2,← hBD];exact Blk.new wr _ _
      have hO2:W2.ownsRow w.heap.size 9 1 v LB.length (cellsT LB):=by rw [← hW2];exact hO.alloc _
      have hB2:Below w.heap.size w W2:=by rw [← hW2];exact HB.out.alloc HB.out.size _
      have hvB:v.ownBlock ≠ some BD:=fun e=>by have:=(hO.lt _ e).2;omega
      have hKind:=kindOf_any nm n W2
      have HY2:=Lib.hid hY2;clear hY2
      have HO2:=Lib.hid hO2;clear hO2 hO
      have HB2:=Lib.hid hB2;clear hB2 HB
      have HW2:=Lib.hid hW2;clear hW2
      have HBD:=Lib.hid hBD;clear hBD
      go_upto_region 8 with fail
      rw [HW2.out,HBD.out]
      clear HW2 g0 g1
      have k0:W2.cell? ⟨BD,0,none⟩=some (.string nm):=HY2.out.cell 0
      have k1:W2.cell? ⟨BD,1,none⟩=some (.int .i64 n):=HY2.out.cell 1
      have hl1:LB.length+1≤maxLen:=by unfold maxLen at *;omega
      by_cases hn:n=0
      · subst hn
        rw [show kD 0=1 from rfl] at hKind
        simp only [show ((0:Int) == 0)=true from rfl,if_true] at hma
        rw [hdn] at hma
        have HMA:=Lib.hid hma;clear hma hds
        have HK:=Lib.hid hKind;clear hKind
        go_wp2_with (first | (go_at_call 35;(with_reducible refine HK.out.mono ?_);rintro e w3 ⟨rfl,hb3⟩;have HO3:=Lib.hid (ownsRow_below HO2.out hb3);have HB3:=Lib.hid (below_next HB2.out hb3);have hY3:=HY2.out.below hb3 HY2.out.lt;have r0:=hY3.cell 0;have r1:=hY3.cell 1;simp at r0 r1;have HY3:=Lib.hid hY3;clear hb3 hY3) | (go_at_call 36;(with_reducible refine (clone_w _ _ hnx).mono ?_);rintro e w4 ⟨rfl,hb4⟩;have HO4:=Lib.hid (ownsRow_below HO3.out hb4);have HB4:=Lib.hid (below_next HB3.out hb4);have HNW:=Lib.hid (news_str w4 nm _ rfl);have HSZ:=Lib.hid (show w.heap.size≤(w4.alloc (.cells #[.string nm] 9)).heap.size by have:=HB4.out.size;simp;omega);clear hb4) | (at_builtin;(with_reducible refine wpList_append_lies _ rfl (.tmp 27) (.tmp 31) 27 rfl w.heap.size 9 i0 _ 1 16 Tryz.underlying27 HI0.out HZ0.out HZ1.out HZ2.out rfl (by omega) v LB.length (cellsT LB) rfl (HO4.out.alloc _) ⟨_,0,none⟩ 1 1 [.string nm] rfl rfl HNW.out (str_one _) (by omega) hl1 (by omega) HSZ.out _ rfl ?_);(intro gg cap w7 hown7 hgrow7 hat hlt7)) | fail)
        have HB7:=Lib.hid (below_grown (HB4.out.alloc HB4.out.size (.cells #[.string nm] 9)) (by have:=HB4.out.size;simp;omega) hgrow7 (fun r hr=>(HO4.out.lt r hr).1))
        have HO7:=Lib.hid hown7
        clear hgrow7 hown7 hat
        go_roundw
        case rel=>exact ⟨_,i+1,rfl,by go_num,by omega,by rw [HMA.out];simpa [cellsT] using HO7.out,HB7.out⟩
        case measure=>simp [intOf];omega
      · have hk2:kD n=2:=by unfold kD;rw [if_neg hn]
        rw [hk2] at hKind
        simp only [show (n == 0)=false by simpa using hn,Bool.false_eq_true,if_false] at hma
        have HMA:=Lib.hid hma;clear hma hk2 hn hds
        have HK:=Lib.hid hKind;clear hKind
        go_wp2_with (first | (go_at_call 35;(with_reducible refine HK.out.mono ?_);rintro e w3 ⟨rfl,hb3⟩;have HO3:=Lib.hid (ownsRow_below HO2.out hb3);have HB3:=Lib.hid (below_next HB2.out hb3);have hY3:=HY2.out.below hb3 HY2.out.lt;have r0:=hY3.cell 0;have r1:=hY3.cell 1;simp at r0 r1;have HY3:=Lib.hid hY3;clear hb3 hY3) | fail)
        go_roundw
        case rel=>exact ⟨v,i+1,rfl,by go_num,by omega,by rw [HMA.out,List.append_nil];exact HO3.out,HB3.out⟩
        case measure=>simp [intOf];omega
    · obtain rfl:i=ds.length:=by omega
      have h0:=HO.out
      rw [List.take_length,HFIN.out] at h0
      have HO7:=Lib.hid h0;clear h0
      go_wp2_with fail
      go_ret2
      exact ⟨v,rfl,HO7.out,HB.out⟩
 · have hz1:(WE != 0)=true:=by simpa using hz
   have hfin:=HFIN.out;clear HFIN HNM
   rw [if_neg hz] at hfin
   subst hfin
   clear hz hfew
   go_wp2_with (first | (go_at_call 34;(with_reducible refine HT.out.mono ?_);rintro e w2 ⟨rfl,hb2⟩;have HB2:=Lib.hid (below_next HAL.out hb2);clear hb2) | fail)
   go_ret2
   exact ⟨_,rfl,World.ownsRow_nil _ _ _ _,HB2.out⟩
def cellsD (l:List Nd):List Value:=l.flatMap fun x=>[.string (dNm x),.int .i64 (dSz x)]
theorem cellsD_snoc (l:List Nd) (x:Nd):cellsD (l ++ [x])=cellsD l ++ [.string (dNm x),.int .i64 (dSz x)]:=by simp [cellsD]
theorem info_decl:(Tryz.prog.info? 104).map (fun i=>(i.zero,i.size,i.bytes))=some (some (.agg #[.string ⟨#[]⟩,.int .i64 0]),2,24):=by kernel_rfl
theorem decl_one (nm:ByteArray) (k:Int):∀ u ∈ ([.string nm,.int .i64 k]:List Value),u.oneCell'=true:=kuse_one nm k
set_option maxRecDepth 100000 in
set_option maxHeartbeats 8000000 in
theorem warrs_any (ds ss:List Nd) (v0 v1:Value) (w:World) (hd:SlIn w .D ds v0) (hs:SlIn w .S ss v1) :
    Calls Tryz.prog 15 #[.agg #[v0,v1]] w (ListTo w 104 2 (wellP ds ss).2 (if (wellP ds ss).2=0 then arrsL ds else []).length (cellsD (if (wellP ds ss).2=0 then arrsL ds else []))):=by
 have hfd:=fit_list hd
 have hnd:=noD_list hs
 have htc:=fun w1 (hb:Below w.heap.size w w1)=>wcheck_any ds ss v0 v1 w1 (hd.keep (keeps_below hb)) (hs.keep (keeps_below hb))
 have hnm:=fun h=>(nms_sz hfd hnd (wellP_ok (ds:=ds) (ss:=ss) h).1).1
 have hfew:=fun h=>names_few hfd hnd (fault_lim (wellP_ok (ds:=ds) (ss:=ss) h).1)
 unfold ListTo
 obtain ⟨⟨WN,WE⟩,hW⟩:∃ p,wellP ds ss=p:=⟨_,rfl⟩
 simp only [hW] at htc hnm hfew ⊢
 clear hW hnd
 obtain ⟨FIN,hFIN⟩:∃ l,(if WE=0 then arrsL ds else [])=l:=⟨_,rfl⟩
 rw [hFIN]
 have HFIN:=Lib.hid hFIN;clear hFIN
 have HNM:=Lib.hid hnm;clear hnm
 have HFD:=Lib.hid hfd;clear hfd
 obtain ⟨a0,c0,rfl,hlc0,hcm0,hrow0⟩:=hd
 obtain ⟨a1,c1,rfl,-⟩:=hs
 have HROW:=Lib.hid hrow0;clear hrow0
 obtain ⟨W1,hW1⟩:∃ W1,w.alloc (.cells #[.slice a0 ds.length c0,.slice a1 ss.length c1] 25)=W1:=⟨_,rfl⟩
 have hal:Below w.heap.size w W1:=by rw [← hW1];exact (Below.refl _ w).alloc (Nat.le_refl _) _
 have hX1:Blk W1 w.heap.size #[.slice a0 ds.length c0,.slice a1 ss.length c1] 25:=by rw [← hW1];exact Blk.new w _ _
 have x0:W1.cell? ⟨w.heap.size,0,none⟩=some (.slice a0 ds.length c0):=hX1.cell 0
 have y0:W1.cell? ⟨w.heap.size,1,none⟩=some (.slice a1 ss.length c1):=hX1.cell 1
 have HT:=Lib.hid (htc W1 hal);clear htc
 have HX1:=Lib.hid hX1;clear hX1
 have HAL:=Lib.hid hal;clear hal
 have HW1:=Lib.hid hW1;clear hW1
 obtain ⟨i0,hi0,hz0,hz1,hz2⟩:=info_parts info_decl
 have HI0:=Lib.hid hi0;clear hi0
 have HZ0:=Lib.hid hz0;clear hz0
 have HZ1:=Lib.hid hz1;clear hz1
 have HZ2:=Lib.hid hz2;clear hz2
 go_enter Tryz.func15,Tryz.ntmps15
 go_upto_region 1 with fail
 rw [HW1.out]
 clear HW1
 by_cases hz:WE=0
 · subst hz
   have hnm:=HNM.out (by simp);clear HNM
   have hdl:ds.length≤4096:=by have:=hfew (by simp);omega
   clear hfew
   have HNM:=Lib.hid hnm;clear hnm
   have hfin:=HFIN.out;clear HFIN
   rw [if_pos rfl] at hfin
   have HFIN:=Lib.hid hfin;clear hfin
   go_wp2_with (first | (go_at_call 34;(with_reducible refine HT.out.mono ?_);rintro e w2 ⟨rfl,hb2⟩;have HB2:=Lib.hid (below_next HAL.out hb2);have x2:=(HX1.out.below hb2 HX1.out.lt).cell 0;simp at x2;clear hb2) | fail)
   clear x0 y0 HT HX1 HAL x2
   go_loopw [6,20] (fun y x wr=>∃ (v:Value) (i:Nat),v=y∧x=.int .i64 i∧i≤ds.length∧wr.ownsRow w.heap.size 104 2 v (arrsL (ds.take i)).length (cellsD (arrsL (ds.take i)))∧Below w.heap.size w wr) (fun _ x _=>ds.length - (intOf x).toNat)
   case atStart=>exact ⟨.slice none 0 0,0,rfl,rfl,by omega,by rw [List.take_zero];exact World.ownsRow_nil _ _ _ _,HB2.out⟩
   case round =>
    obtain ⟨v,i,rfl,rfl,hi,hOr,hBr⟩:=hrel
    clear HB2
    have HO:=Lib.hid hOr;clear hOr
    have HB:=Lib.hid hBr;clear hBr
    by_cases hlt:i < ds.length
    · have hbi:(i:Int)+1≤9223372036854775807:=by unfold maxLen at hcm0;omega
      have hxl:¬ ds.length=0:=by omega
      obtain ⟨b,o,rfl,hrow⟩:=HROW.out.resolve_left hxl
      obtain ⟨hty,u0,u1,m0,m1,hnd⟩:=SlIn.item2 rfl hrow i hlt
      have kk:=keeps_below HB.out
      have g0:=kk _ _ _ m0
      have g1:=kk _ _ _ m1
      have hma:=arrsL_take hlt
      have hle:=arrsL_le ds i
      have hnx:=HNM.out ds[i] (List.getElem_mem hlt)
      clear m0 m1 kk hrow
      obtain ⟨X,hX⟩:∃ X,ds[i]=X:=⟨_,rfl⟩
      rw [hX] at hnd hty hma hnx
      clear hX
      obtain ⟨ty,k,n,nm,xs,cs,ts,es⟩:=X
      simp only [Nd.ty] at hty
      subst hty
      unfold NdIn at hnd
      obtain ⟨-,-,-,-,vx,vc,vt,ve,hvs,-⟩:=hnd
      simp only [lay,List.cons.injEq,and_true] at hvs
      obtain ⟨rfl,rfl⟩:=hvs
      have hdn:dNm (.mk .D k n nm xs cs ts es)=nm:=rfl
      have hds:dSz (.mk .D k n nm xs cs ts es)=n:=rfl
      rw [hds] at hma
      simp only [ownNm] at hnx
      obtain ⟨LB,hLB⟩:∃ l,arrsL (ds.take i)=l:=⟨_,rfl⟩
      have hO:=HO.out;clear HO
      rw [hLB] at hO hma hle
      clear hLB
      obtain ⟨W2,hW2⟩:∃ W2,wr.alloc (.cells #[.string nm,.int .i64 n] 104)=W2:=⟨_,rfl⟩
      obtain ⟨BD,hBD⟩:∃ x,wr.heap.size=x:=⟨_,rfl⟩
      have hY2:Blk W2 BD #[.string nm,.int .i64 n] 104:=by rw [← hW2,← hBD];exact Blk.new wr _ _
      have hO2:W2.ownsRow w.heap.size 104 2 v LB.length (cellsD LB):=by rw [← hW2];exact hO.alloc _
      have hB2:Below w.heap.size w W2:=by rw [← hW2];exact HB.out.alloc HB.out.size _
      have hvB:v.ownBlock ≠ some BD:=fun e=>by have:=(hO.lt _ e).2;omega
      have hKind:=kindOf_any nm n W2
      have HY2:=Lib.hid hY2;clear hY2
      have HO2:=Lib.hid hO2;clear hO2 hO
      have HB2:=Lib.hid hB2;clear hB2 HB
      have HW2:=Lib.hid hW2;clear hW2
      have HBD:=Lib.hid hBD;clear hBD
      go_upto_region 8 with fail
      rw [HW2.out,HBD.out]
      clear HW2 g0 g1
      have k0:W2.cell? ⟨BD,0,none⟩=some (.string nm):=HY2.out.cell 0
      have k1:W2.cell? ⟨BD,1,none⟩=some (.int .i64 n):=HY2.out.cell 1
      have hl1:LB.length+1≤maxLen:=by unfold maxLen at *;omega
      by_cases hn:n=0
      · subst hn
        rw [show kD 0=1 from rfl] at hKind
        simp only [show ((0:Int) == 0)=true from rfl,if_true] at hma
        have HMA:=Lib.hid hma;clear hma hds
        have HK:=Lib.hid hKind;clear hKind
        go_wp2_with (first | (go_at_call 35;(with_reducible refine HK.out.mono ?_);rintro e w3 ⟨rfl,hb3⟩;have HO3:=Lib.hid (ownsRow_below HO2.out hb3);have HB3:=Lib.hid (below_next HB2.out hb3);have hY3:=HY2.out.below hb3 HY2.out.lt;have r0:=hY3.cell 0;have r1:=hY3.cell 1;simp at r0 r1;have HY3:=Lib.hid hY3;clear hb3 hY3) | fail)
        go_roundw
        case rel=>exact ⟨v,i+1,rfl,by go_num,by omega,by rw [HMA.out,List.append_nil];exact HO3.out,HB3.out⟩
        case measure=>simp [intOf];omega
      · have hk2:kD n=2:=by unfold kD;rw [if_neg hn]
        rw [hk2] at hKind
        simp only [show (n == 0)=false by simpa using hn,Bool.false_eq_true,if_false] at hma
        have HMA:=Lib.hid hma;clear hma hk2 hn hds
        have HK:=Lib.hid hKind;clear hKind
        go_upto_region 9 with (first | (go_at_call 35;(with_reducible refine HK.out.mono ?_);rintro e w3 ⟨rfl,hb3⟩;have HO3:=Lib.hid (ownsRow_below HO2.out hb3);have HB3:=Lib.hid (below_next HB2.out hb3);have hY3:=HY2.out.below hb3 HY2.out.lt;have r0:=hY3.cell 0;have r1:=hY3.cell 1;simp at r0 r1;have HY3:=Lib.hid hY3;clear hb3 hY3) | fail)
        have hlw:w.heap.size≤w3.heap.size:=HB3.out.size
        have hdn2:∀ k,dNm (.mk .D k n nm xs cs ts es)=nm:=fun _=>rfl
        have hds2:∀ k,dSz (.mk .D k n nm xs cs ts es)=n:=fun _=>rfl
        go_region_law
         (first | (refine step_append_lies _ (by rfl) _ _ _ (by rfl) w.heap.size 104 i0 _ 2 24 Tryz.underlying22 HI0.out HZ0.out HZ1.out HZ2.out rfl (by omega) v LB.length (cellsD LB) (by rfl) ((ownsRow_below HO3.out.drew hb4).alloc _) ⟨w4.heap.size,0,none⟩ 1 1 [.string nm,.int .i64 n] (by rfl) (by rfl) (World.news_of_block (cs:=#[.string nm,.int .i64 n]) (t:=104) (fr:=(0,0)) (heap_alloc_new w4 _)) (decl_one _ _) (by omega) hl1 (by omega) (by have:=hb4.size;simp at this ⊢;omega) (w4.heap.size+1) (by simp) ?_;intro gg cap w7 hown7 hgrow7 hat hlt7) | (go_simp;go_at_call 36;(with_reducible refine (clone_w _ _ hnx).mono ?_);rintro e w4 ⟨rfl,hb4⟩;have s1:w4.cell? ⟨BD,1,none⟩=some (.int .i64 n):=((show Blk w3.drew BD _ _ from HY3.out).below hb4 (show Blk w3.drew BD _ _ from HY3.out).lt).cell 1))
        all_goals
         have HB7:=Lib.hid (below_grown ((below_next HB3.out.drew hb4).alloc (below_next HB3.out.drew hb4).size (.cells #[.string nm,.int .i64 n] 104)) (by have:=hb4.size;simp at this ⊢;omega) hgrow7 (fun r hr=>(HO3.out.lt r hr).1))
         have HO7:=Lib.hid hown7
         clear hgrow7 hown7 hat
         go_wp2_with fail
         go_roundw
         case rel=>exact ⟨_,i+1,rfl,by go_num,by omega,by rw [HMA.out,List.length_append];exact (by rw [cellsD_snoc,hdn2,hds2];exact HO7.out),HB7.out⟩
         case measure=>simp [intOf];omega
    · obtain rfl:i=ds.length:=by omega
      have h0:=HO.out
      rw [List.take_length,HFIN.out] at h0
      have HO7:=Lib.hid h0;clear h0
      go_wp2_with fail
      go_ret2
      exact ⟨v,rfl,HO7.out,HB.out⟩
 · have hz1:(WE != 0)=true:=by simpa using hz
   have hfin:=HFIN.out;clear HFIN HNM
   rw [if_neg hz] at hfin
   subst hfin
   clear hz hfew
   go_wp2_with (first | (go_at_call 34;(with_reducible refine HT.out.mono ?_);rintro e w2 ⟨rfl,hb2⟩;have HB2:=Lib.hid (below_next HAL.out hb2);clear hb2) | fail)
   go_ret2
   exact ⟨_,rfl,World.ownsRow_nil _ _ _ _,HB2.out⟩
end Go.Proofs.YtmohmggnjldddaaGreatDoor
