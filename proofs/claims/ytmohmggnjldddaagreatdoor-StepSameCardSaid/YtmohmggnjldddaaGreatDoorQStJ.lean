/-
  Package step's new machine: what it holds while it is made, and in the end.
-/
import Derived.Test.YtmohmggnjldddaaGreatDoorQStH
import Derived.Deep.RegionLaw
import Derived.Test.YtmohmggnjldddaaGreatDoorQStG
import Derived.Test.YtmohmggnjldddaaGreatDoorQAbb
namespace Go.Proofs.YtmohmggnjldddaaGreatDoor
set_option maxHeartbeats 16000000
set_option maxRecDepth 100000
open Go Go.RowKit Go.Maps
theorem starved_any (K:Ks) (hk:K.ok) (w:World) (p:Nat) (st wr:Int) (s:Rn) (sv ve:Value) (h:Mk K w p st wr s sv ve) (e:Ed) :
    Calls Tryz.prog 49 #[.pointer (some ⟨K.M,0,none⟩),edgeV e] w (fun z w'=>z=.returned (.bool (decide (e.kd=9∧s.left=[])))∧Below w.heap.size w w'):=by
 obtain ⟨X,hX⟩:∃ X,w.heap.size=X:=⟨_,rfl⟩
 obtain ⟨W1,hW1⟩:∃ W1,w.alloc (.cells (edC e) 40)=W1:=⟨_,rfl⟩
 have hx1:Blk W1 X (edC e) 40:=by rw [← hW1,← hX];exact Blk.new w _ _
 have hb1:Below w.heap.size w W1:=by rw [← hW1];exact (Below.refl _ w).alloc (Nat.le_refl _) _
 have hm1:=h.next hk hb1
 obtain ⟨a,c,rfl,-,-,-⟩:=hm1.left
 have x2:W1.cell? ⟨X,2,none⟩=some (.int .i64 e.kd):=hx1.cell 2
 have c2:W1.cell? ⟨K.M,2,none⟩=some (.slice a s.left.length c):=hm1.mach.cell 2
 have HE:=zh (za hW1 hX)
 have HB:=zh hb1
 have hle:(((s.left.length:Nat):Int)==0)=decide (s.left=[]):=by
  cases s.left with
  | nil=>rfl
  | cons x l=>simp;omega
 obtain ⟨L,hL⟩:∃ n,s.left.length=n:=⟨_,rfl⟩
 rw [hL] at c2 hle
 have HLE:=zh hle
 clear hW1 hX hx1 hb1 hm1 hL hle
 by_cases h9:e.kd=9
 · have t9:(e.kd==9)=true:=by simpa using h9
   have H9:=zh h9
   clear h9
   go_enter Tryz.func49,Tryz.ntmps49
   go_upto_region 1 with fail
   rw [HE.out.1,HE.out.2]
   go_wp2_with fail
   go_ret
   refine ⟨?_,HB.out⟩
   rw [HLE.out]
   simp [H9.out]
 · have t9:(e.kd==9)=false:=by simpa using h9
   have H9:=zh h9
   clear h9
   go_enter Tryz.func49,Tryz.ntmps49
   go_upto_region 1 with fail
   rw [HE.out.1,HE.out.2]
   go_wp2_with fail
   go_ret
   refine ⟨?_,HB.out⟩
   simp [H9.out]
theorem Mk.edge {K:Ks} {w:World} {p:Nat} {st wr:Int} {s:Rn} {sv ve:Value} (h:Mk K w p st wr s sv ve) {j:Nat} (hj:j<K.g.es.length) :
    ∃ b o,K.ae=some ⟨b,o,none⟩∧w.cell? ⟨b,o+j * 10,none⟩=some (.int .i64 K.g.es[j].fr)∧w.cell? ⟨b,o+j * 10+1,none⟩=some (.int .i64 K.g.es[j].dt)∧w.cell? ⟨b,o+j * 10+2,none⟩=some (.int .i64 K.g.es[j].kd)∧w.cell? ⟨b,o+j * 10+3,none⟩=some (.int .i64 K.g.es[j].dst)∧w.cell? ⟨b,o+j * 10+4,none⟩=some (.int .i64 K.g.es[j].arr)∧w.cell? ⟨b,o+j * 10+5,none⟩=some (.int .i64 K.g.es[j].op)∧w.cell? ⟨b,o+j * 10+6,none⟩=some (.int .i64 K.g.es[j].av)∧w.cell? ⟨b,o+j * 10+7,none⟩=some (.int .i64 K.g.es[j].an)∧w.cell? ⟨b,o+j * 10+8,none⟩=some (.int .i64 K.g.es[j].bv)∧w.cell? ⟨b,o+j * 10+9,none⟩=some (.int .i64 K.g.es[j].bn):=by
 obtain ⟨a,c,e,h1,h2,h3⟩:=h.eds
 obtain ⟨h4,-,-⟩:=Value.slice.inj e
 obtain ⟨b,o,h5,hc⟩:=h3.resolve_left (by omega)
 exact ⟨b,o,h4.trans h5,eds_at hc j hj⟩
def msG (M:Nat) (w:World):Nat:=match w.cell? ⟨M,26,none⟩,w.cell? ⟨M,28,none⟩ with
 | some (.int _ st),some (.int _ n)=>if st=1 then 70000 - n.toNat else 0
 | _,_=>0
theorem Mk.ms {K:Ks} {w:World} {p:Nat} {st wr:Int} {s:Rn} {sv ve:Value} (h:Mk K w p st wr s sv ve):msG K.M w=if st=1 then 70000 - s.steps else 0:=by
 have h1:w.cell? ⟨K.M,26,none⟩=some (.int .i64 st):=h.mach.cell 26
 have h2:w.cell? ⟨K.M,28,none⟩=some (.int .i64 s.steps):=h.mach.cell 28
 unfold msG
 rw [h1,h2]
 simp only [Int.toNat_natCast]
def MrI (K:Ks) (most:Nat) (R:Gx) (w wr:World):Prop:=Kp' K w wr∧∃ (p:Nat) (st wg:Int) (s:Rn) (sv ve:Value),Mk K wr p st wg s sv ve∧((st=1∧wg=0∧s.steps≤most∧finG most K.g.es p s=R)∨(st≠1∧R=(st,wg,(p:Int),s)))
def MrTo (K:Ks) (R:Gx) (w:World):Ending→World→Prop:=fun z w'=>z=.returned (.tuple #[])∧Kp' K w w'∧∃ (p:Nat) (sv ve:Value),R.2.2.1=(p:Int)∧Mk K w' p R.1 R.2.1 R.2.2.2 sv ve
theorem mrun_any (K:Ks) (hk:K.ok) (w:World) (p:Nat) (st:Int) (s:Rn) (sv ve:Value) (h:Mk K w p st 0 s sv ve) (most:Nat) (hm:most≤65536) (hs:s.steps≤most) :
    Calls Tryz.prog 31 #[.pointer (some ⟨K.M,0,none⟩),.int .i64 (most:Int)] w (MrTo K (finG most K.g.es p s) w):=by
 obtain ⟨R,hR⟩:∃ R,finG most K.g.es p s=R:=⟨_,rfl⟩
 rw [hR]
 have mc:=h.mach.cell
 have mf:=h.mach.free
 have H0:=zh (za h (za hs (za hm hR)))
 clear h hs hm hR
 go_enter Tryz.func31,Tryz.ntmps31
 go_wp2_with fail
 clear mc mf
 go_loopw [4] (fun _ wr=>Hid (MrI K most R w wr)) (fun _ wr=>msG K.M wr)
 case atStart =>
  refine zh ?_
  have ho:Only K.M w (w.setCell ⟨K.M,26,none⟩ (.int .i64 1)):=(Only.refl K.M w).setCell (p:=⟨K.M,26,none⟩) rfl _
  exact ⟨Kp'.only ho (nfix_M K),p,1,0,s,sv,ve,H0.out.1.setM hk ho (H0.out.1.mach.set 26 _) rfl rfl rfl H0.out.1.left H0.out.1.few H0.out.1.pt H0.out.1.fl,.inl ⟨rfl,rfl,H0.out.2.1,H0.out.2.2.2⟩⟩
 case round =>
  obtain ⟨hkp,p,st,wg,s,sv,ve,hM,hcase⟩:=hrel.out
  clear hrel
  have c26:wr.cell? ⟨K.M,26,none⟩=some (.int .i64 st):=hM.mach.cell 26
  by_cases h1:st=1
  · subst h1
    obtain ⟨-,rfl,hst,hfin⟩:=hcase.resolve_right (fun h=>h.1 rfl)
    have HM:=zh (za hM (za hkp (za hst hfin)))
    have hpt:=hM.pt
    have hnn:=len_n hk
    have c0:wr.cell? ⟨K.M,0,none⟩=some (.slice (some ⟨K.vb,0,none⟩) K.nvt K.nvt):=hM.mach.cell 0
    have hii:(p:Int)<(K.g.n:Int):=by omega
    obtain ⟨OL,hOL⟩:∃ l,outL K.g.es p=l:=⟨_,rfl⟩
    have hq:=hM.frm p hpt
    rw [hOL] at hq
    have HT:=zh (fun W (hb:Below wr.heap.size wr W)=>taken_any (.slice (some ⟨K.vb,0,none⟩) K.nvt K.nvt) K.va sv s W ((hM.next hk hb).vs hk) K.g.es K.ae K.ce (hM.eds.keep (keeps_below hb)) OL (K.fa p) (K.fc p) (hq.2.keep (keeps_below hb)) (by have:=outT_len K.g.es K.g.es.length p;have h2:outT K.g.es K.g.es.length p=OL:=hOL;rw [h2] at this;omega) (fun j hj=>by rw [← hOL] at hj;exact (outT_lt hj).1)
     (fun j hj hkd=>by
      rw [← hOL] at hj
      have hjl:=(outT_lt hj).1
      have hg:K.g.es.getD j noE=K.g.es[j]:=by rw [List.getD_eq_getElem?_getD,List.getElem?_eq_getElem hjl,Option.getD_some]
      rw [hg] at hkd ⊢
      have hv:=edV_at hk hM (List.getElem_mem hjl)
      exact ⟨hv.a (.inr (by omega)),hv.b (.inr (.inr hkd))⟩))
    have HOL:=zh hOL
    have KS:=fun w' (hW:Below wr.heap.size wr w')=>(⟨(hM.next hk hW).mach.cell 0,(hM.next hk hW).mach.cell 1,(hM.next hk hW).mach.cell 2,(hM.next hk hW).mach.cell 8,(hM.next hk hW).mach.cell 9,(hM.next hk hW).mach.cell 25,(by have:=((hM.next hk hW).frm p hpt).1;rwa [hOL] at this)⟩:w'.cell? ⟨K.M,0,none⟩=some (.slice (some ⟨K.vb,0,none⟩) K.nvt K.nvt)∧w'.cell? ⟨K.M,1,none⟩=some K.va∧w'.cell? ⟨K.M,2,none⟩=some sv∧w'.cell? ⟨K.M,8,none⟩=some (.slice K.ae K.g.es.length K.ce)∧w'.cell? ⟨K.M,9,none⟩=some (.slice (some ⟨K.L,0,none⟩) K.g.n K.g.n)∧w'.cell? ⟨K.M,25,none⟩=some (.int .i64 (p:Int))∧w'.cell? ⟨K.L,p,none⟩=some (.slice (K.fa p) OL.length (K.fc p)))
    clear hcase hkp hM hst hfin hnn hq hOL hpt c0
    go_upto_region 2 with fail
    go_cut [4] (fun s4 wx=>s4=.int .i64 (takI K.g.es OL s)∧Below wr.heap.size wr wx)
    case first =>
     go_region_held3 (fun w'=>w'.cell? ⟨K.M,0,none⟩=some (.slice (some ⟨K.vb,0,none⟩) K.nvt K.nvt)∧w'.cell? ⟨K.M,1,none⟩=some K.va∧w'.cell? ⟨K.M,2,none⟩=some sv∧w'.cell? ⟨K.M,8,none⟩=some (.slice K.ae K.g.es.length K.ce)∧w'.cell? ⟨K.M,9,none⟩=some (.slice (some ⟨K.L,0,none⟩) K.g.n K.g.n)∧w'.cell? ⟨K.M,25,none⟩=some (.int .i64 (p:Int))∧w'.cell? ⟨K.L,p,none⟩=some (.slice (K.fa p) OL.length (K.fc p)))
      ((with_reducible refine KS _ ?_;repeat (with_reducible (first | exact Below.refl _ _ | refine below_drew ?_ | refine below_next ?_ hb4 | fail))))
      (first | (go_at_call 48;(with_reducible refine (HT.out _ (by repeat (with_reducible (first | exact Below.refl _ _ | refine below_drew ?_ | fail)))).mono ?_);rintro z w4 ⟨rfl,hb4⟩))
     all_goals (go_wp2_with fail;go_meet;exact ⟨rfl,by repeat (with_reducible (first | exact Below.refl _ _ | refine below_drew ?_ | refine below_next ?_ hb4 | fail))⟩)
    case rest =>
     obtain ⟨rfl,hbx⟩:=hcut
     have hMx:=HM.out.1.next hk hbx
     have HX:=zh (za hMx hbx)
     have mc:=hMx.mach.cell
     have mf:=hMx.mach.free
     clear KS HT hbx c26
     cases htk:takG K.g.es OL s with
     | none =>
       have hti:takI K.g.es OL s = -1:=by unfold takI;rw [htk]
       rw [hti]
       have HR:R=((2:Int),(0:Int),(p:Int),s):=by
        rw [← HM.out.2.2.2]
        refine fin_inr HM.out.2.2.1 ?_
        unfold stepG
        rw [Int.toNat_natCast,HOL.out,htk]
       have HR:=zh HR
       clear htk hti hMx
       go_wp2_with fail
       go_roundw
       case rel =>
        refine zh ⟨HM.out.2.1.trans ((Kp'.below HX.out.2).trans (Kp'.only ((Only.refl K.M wc).setCell (p:=⟨K.M,26,none⟩) rfl _) (nfix_M K))),p,2,0,s,sv,ve,HX.out.1.setM hk ((Only.refl K.M wc).setCell (p:=⟨K.M,26,none⟩) rfl _) (HX.out.1.mach.set 26 _) rfl rfl rfl HX.out.1.left HX.out.1.few HX.out.1.pt HX.out.1.fl,.inr ⟨by decide,HR.out⟩⟩
       case measure =>
        have hm2:Mk K (wc.setCell ⟨K.M,26,none⟩ (.int .i64 2)) p 2 0 s sv ve:=HX.out.1.setM hk ((Only.refl K.M wc).setCell (p:=⟨K.M,26,none⟩) rfl _) (HX.out.1.mach.set 26 _) rfl rfl rfl HX.out.1.left HX.out.1.few HX.out.1.pt HX.out.1.fl
        have e1:=hm2.ms
        have e2:=HM.out.1.ms
        rw [if_neg (by decide)] at e1
        rw [if_pos rfl] at e2
        have h3:=HM.out.2.2.1
        have h4:=H0.out.2.2.1
        show msG K.M _<msG K.M wr
        rw [e1,e2]
        omega
     | some j =>
       have hti:takI K.g.es OL s=(j:Int):=by unfold takI;rw [htk]
       rw [hti]
       have hjO:j ∈ OL:=List.mem_of_find?_eq_some htk
       have hjl:j<K.g.es.length:=by rw [← HOL.out] at hjO;exact (outT_lt hjO).1
       have hgd:K.g.es.getD j noE=K.g.es[j]:=by rw [List.getD_eq_getElem?_getD,List.getElem?_eq_getElem hjl,Option.getD_some]
       have hmem:=List.getElem_mem hjl
       have hstp:stepG most K.g.es (p:Int) s=if (K.g.es.getD j noE).kd=9∧s.left=[] then .inr (2,0,(p:Int),s) else if s.steps=most then .inr (1,0,(p:Int),s)
           else if (doE (K.g.es.getD j noE) (tick s)).1=0 then .inl ((K.g.es.getD j noE).dt,(doE (K.g.es.getD j noE) (tick s)).2) else .inr (3,(doE (K.g.es.getD j noE) (tick s)).1,(p:Int),(doE (K.g.es.getD j noE) (tick s)).2):=by
        unfold stepG
        rw [Int.toNat_natCast,HOL.out,htk]
       rw [hgd] at hstp
       have hkae:∃ b o,K.ae=some ⟨b,o,none⟩:=by obtain ⟨b,o,h1,-⟩:=hMx.edge hjl;exact ⟨b,o,h1⟩
       obtain ⟨b,o,hae⟩:=hkae
       have hed:∀ W,Mk K W p 1 0 s sv ve→W.cell? ⟨K.M,8,none⟩=some (.slice (some ⟨b,o,none⟩) K.g.es.length K.ce)∧W.cell? ⟨b,o+j * 10,none⟩=some (.int .i64 K.g.es[j].fr)∧W.cell? ⟨b,o+j * 10+1,none⟩=some (.int .i64 K.g.es[j].dt)∧W.cell? ⟨b,o+j * 10+2,none⟩=some (.int .i64 K.g.es[j].kd)∧W.cell? ⟨b,o+j * 10+3,none⟩=some (.int .i64 K.g.es[j].dst)∧W.cell? ⟨b,o+j * 10+4,none⟩=some (.int .i64 K.g.es[j].arr)∧W.cell? ⟨b,o+j * 10+5,none⟩=some (.int .i64 K.g.es[j].op)∧W.cell? ⟨b,o+j * 10+6,none⟩=some (.int .i64 K.g.es[j].av)∧W.cell? ⟨b,o+j * 10+7,none⟩=some (.int .i64 K.g.es[j].an)∧W.cell? ⟨b,o+j * 10+8,none⟩=some (.int .i64 K.g.es[j].bv)∧W.cell? ⟨b,o+j * 10+9,none⟩=some (.int .i64 K.g.es[j].bn):=fun W hW=>by
        obtain ⟨b',o',h1,h2⟩:=hW.edge hjl
        rw [hae] at h1
        cases h1
        exact ⟨by rw [← hae];exact hW.mach.cell 8,h2⟩
       obtain ⟨E,hE⟩:∃ E,K.g.es[j]=E:=⟨_,rfl⟩
       rw [hE] at hstp hmem
       simp only [hE] at hed
       obtain ⟨k8,e0,e1,e2,e3,e4,e5,e6,e7,e8,e9⟩:=hed wc hMx
       have hjj:(j:Int)<(K.g.es.length:Int):=by omega
       have t1:((j:Int)==-1)=false:=by rw [beq_eq_false_iff_ne];omega
       have HSV:=zh (starved_any K hk wc p 1 0 s sv ve hMx E)
       have HSP:=zh (za hstp (za hmem hed))
       obtain ⟨D,hD⟩:∃ d,decide (E.kd=9∧s.left=[])=d:=⟨_,rfl⟩
       rw [hD] at HSV
       have HD:=zh hD
       clear htk hti hMx hjO hjl hgd hmem hstp hae hed hE hD mc mf
       go_wp2_with fail
       refine HSV.out.mono ?_
       rintro z w4 ⟨rfl,hb4⟩
       have hm4:=HX.out.1.next hk hb4
       have hb4':Below wr.heap.size wr w4:=HX.out.2.trans (hb4.mono HX.out.2.size)
       have H4:=zh (za hm4 hb4')
       have mc:=hm4.mach.cell
       have mf:=hm4.mach.free
       clear e0 e1 e2 e3 e4 e5 e6 e7 e8 e9 k8 HSV hb4 hm4 hb4'
       cases D with
       | true =>
         have HR:R=((2:Int),(0:Int),(p:Int),s):=by
          rw [← HM.out.2.2.2]
          refine fin_inr HM.out.2.2.1 ?_
          rw [HSP.out.1,if_pos (of_decide_eq_true HD.out)]
         have HR:=zh HR
         go_wp2_with fail
         go_roundw
         case rel =>
          refine zh ⟨HM.out.2.1.trans ((Kp'.below H4.out.2).trans (Kp'.only ((Only.refl K.M w4).setCell (p:=⟨K.M,26,none⟩) rfl _) (nfix_M K))),p,2,0,s,sv,ve,H4.out.1.setM hk ((Only.refl K.M w4).setCell (p:=⟨K.M,26,none⟩) rfl _) (H4.out.1.mach.set 26 _) rfl rfl rfl H4.out.1.left H4.out.1.few H4.out.1.pt H4.out.1.fl,.inr ⟨by decide,HR.out⟩⟩
         case measure =>
          have hm2:Mk K (w4.setCell ⟨K.M,26,none⟩ (.int .i64 2)) p 2 0 s sv ve:=H4.out.1.setM hk ((Only.refl K.M w4).setCell (p:=⟨K.M,26,none⟩) rfl _) (H4.out.1.mach.set 26 _) rfl rfl rfl H4.out.1.left H4.out.1.few H4.out.1.pt H4.out.1.fl
          have e1:=hm2.ms
          have e2:=HM.out.1.ms
          rw [if_neg (by decide)] at e1
          rw [if_pos rfl] at e2
          have h3:=HM.out.2.2.1
          have h4:=H0.out.2.2.1
          show msG K.M _<msG K.M wr
          rw [e1,e2]
          omega
       | false =>
         by_cases hsm:s.steps=most
         · have t2:((s.steps:Int)==(most:Int))=true:=by simp [hsm]
           have c28:w4.cell? ⟨K.M,28,none⟩=some (.int .i64 (s.steps:Int)):=mc 28
           have HR:R=((1:Int),(0:Int),(p:Int),s):=by
            rw [← HM.out.2.2.2]
            refine fin_inr HM.out.2.2.1 ?_
            rw [HSP.out.1,if_neg (of_decide_eq_false HD.out),if_pos hsm]
           have HR:=zh HR
           clear hsm mc mf
           go_wp2_with fail
           go_end0
           refine ⟨rfl,HM.out.2.1.trans (Kp'.below H4.out.2),?_⟩
           rw [HR.out]
           exact ⟨p,sv,ve,rfl,H4.out.1⟩
         · have t2:((s.steps:Int)==(most:Int))=false:=by rw [beq_eq_false_iff_ne];omega
           have c28:w4.cell? ⟨K.M,28,none⟩=some (.int .i64 (s.steps:Int)):=mc 28
           have hlt:s.steps<most:=by have:=HM.out.2.2.1;omega
           have hml:most≤65536:=H0.out.2.2.1
           have HST:=zh (mstep_any K hk w4 p s sv ve H4.out.1 E HSP.out.2.1 (fun h9 hl=>of_decide_eq_false HD.out ⟨h9,hl⟩) (by omega))
           obtain ⟨k8,e0,e1,e2,e3,e4,e5,e6,e7,e8,e9⟩:=HSP.out.2.2 w4 H4.out.1
           have HL:=zh (za hlt hsm)
           clear hsm mc mf hlt hml
           go_wp2_with fail
           refine HST.out.mono ?_
           rintro z w5 ⟨rfl,hkp5,sv',ve',hS⟩
           have hstp:=HSP.out.1
           rw [if_neg (of_decide_eq_false HD.out),if_neg HL.out.2] at hstp
           have hkp:Kp' K w w5:=HM.out.2.1.trans ((Kp'.below H4.out.2).trans hkp5)
           have HKP:=zh hkp
           have hds:(doE E (tick s)).2.steps=s.steps+1:=do_steps E (tick s)
           have hrel2:MrI K most R w w5∧msG K.M w5<msG K.M wr:=by
            have f2:=HM.out.1.ms
            rw [if_pos rfl] at f2
            have h3:=HL.out.1
            have h4:=H0.out.2.2.1
            by_cases hz:(doE E (tick s)).1=0
            · rw [if_pos hz] at hS hstp
              have hfi:=fin_inl HM.out.2.2.1 hstp
              have hdt:=dt_at hk HSP.out.2.1
              refine ⟨⟨hkp,E.dt.toNat,1,0,_,sv',ve',hS,.inl ⟨rfl,rfl,by omega,?_⟩⟩,?_⟩
              · rw [show ((E.dt.toNat:Nat):Int)=E.dt by omega,← hfi]
                exact HM.out.2.2.2
              · rw [hS.ms,f2,if_pos rfl]
                omega
            · rw [if_neg hz] at hS hstp
              have hfi:=fin_inr HM.out.2.2.1 hstp
              refine ⟨⟨hkp,p,3,_,_,sv',ve',hS,.inr ⟨by decide,?_⟩⟩,?_⟩
              · rw [← HM.out.2.2.2]
                exact hfi
              · rw [hS.ms,f2,if_neg (by decide)]
                omega
           have HRL:=zh hrel2
           clear hS hstp hkp5 hkp hds hrel2 c28 k8 e0 e1 e2 e3 e4 e5 e6 e7 e8 e9
           go_wp2_with fail
           go_roundw
           case rel=>exact zh HRL.out.1
           case measure=>exact HRL.out.2
  · have hc:=hcase.resolve_left (fun h=>h1 h.1)
    have HR:=zh (za hM (za hkp hc.2))
    have t1:(st==1)=false:=by simpa using h1
    clear hcase hM hkp hc
    go_wp2_with fail
    go_end0
    refine ⟨rfl,HR.out.2.1,?_⟩
    rw [HR.out.2.2]
    exact ⟨p,sv,ve,rfl,HR.out.1⟩
theorem mk_ints (n:Nat) (hn:n≤1024) (w:World):(Instr.makeSlice 42 (.int .i64 (n:Int)) (.int .i64 (n:Int))).run Tryz.prog w=.ok (.slice (some ⟨w.heap.size,0,none⟩) n n) (w.alloc (.cells (intsV (List.replicate n 0)) 2)):=by
 obtain ⟨i0,hi0,hz0,hz1,hz2⟩:=info_parts (show (Tryz.prog.info? 2).map (fun i=>(i.zero,i.size,i.bytes))=some (some (.int .i64 0),1,8) by kernel_rfl)
 have h:=run_make (P:=Tryz.prog) w 42 2 i0 _ Tryz.underlying42 hi0 hz0 .i64 .i64 (n:Int) (n:Int) (by omega) (Int.le_refl _) (by rw [hz2];omega) (by omega)
 rw [hz1] at h
 have e:madeCells (Value.cells (.int .i64 0)) n=intsV (List.replicate n 0):=by
  apply Array.toList_inj.1
  have:=toList_madeCells_one (.int .i64 0) n
  rw [show madeCells (Value.cells (.int .i64 0)) n=madeCells #[.int .i64 0] n from rfl,this]
  simp [intsV]
 have e2:((n:Int)).toNat=n:=by omega
 rw [e2,Nat.mul_one,e] at h
 exact h
theorem info_rows3:(Tryz.prog.info? 42).map (fun i=>(i.zero,i.size,i.bytes))=some (some (.slice none 0 0),1,24):=by kernel_rfl
theorem abl_at2 {ab:List (Nat × Nat)} {AN:List Nd} (h:ab.map (·.2)=AN.map zerosA) (i:Nat) (hi:i<ab.length):∃ hi2:i<AN.length,ab[i].2=zerosA AN[i]:=by
 have hl:ab.length=AN.length:=by have:=congrArg List.length h;simpa using this
 refine ⟨by omega,?_⟩
 have h1:(ab.map (·.2))[i]'(by simpa using hi)=(AN.map zerosA)[i]'(by simp;omega):=by simp only [h]
 simpa using h1
abbrev machU (g:Gf) (v0 v1 v2:Value) (av:Option Addr) (cv:Nat) (aa:Option Addr) (ca:Nat) (ae:Option Addr) (ce:Nat) (n L:Nat):Array Value:=#[v0,v1,v2,.slice av g.vs.length cv,.int .i64 g.tmp,.slice aa g.ar.length ca,.int .i64 (n:Int),.int .i64 g.ext,.slice ae g.es.length ce,.slice (some ⟨L,0,none⟩) n n,.nilFunc,.func (.func 86) #[] #[],.func (.func 87) #[] #[],.func (.func 88) #[] #[],.func (.func 89) #[] #[],.func (.func 90) #[] #[],.func (.func 91) #[] #[],.func (.func 92) #[] #[],.func (.func 93) #[] #[],.func (.func 94) #[] #[],.func (.func 95) #[] #[],.func (.func 96) #[] #[],.func (.func 86) #[] #[],.func (.func 97) #[] #[],.func (.func 98) #[] #[],.int .i64 0,.int .i64 0,.int .i64 0,.int .i64 0,.slice none 0 0,.slice none 0 0,.slice none 0 0]
def startG (g:Gf) (sc:List Int):Rn:={ vars:=List.replicate g.nv.toNat 0,arrs:=g.ar.map fun d=>List.replicate (zerosA d) 0,evs:=[],steps:=0,left:=sc }
structure NewA (w:World) (g:Gf) (c:Array Value) (n L M vb nv:Nat) (vs:Nat→Value) (i:Nat) (va:Value) (ab:List (Nat × Nat)) (wr:World):Prop where
 mach:Blk wr M (c.setIfInBounds 1 va) 97
 rows:RwIn wr L n (outL g.es) vs
 rlo:∀ p,p<n→∀ k,(vs p).ownBlock=some k→M<k∧k<vb
 vars:Blk wr vb (intsV (List.replicate nv 0)) 2
 row:wr.ownsRow (vb+1) 42 1 va i (ab.map rowV)
 len:ab.length=i
 abl:ab.map (·.2)=(g.ar.take i).map zerosA
 blk:∀ j (h:j<ab.length),Blk wr ab[j].1 (intsV (List.replicate ab[j].2 0)) 2
 lo:∀ x ∈ ab,vb<x.1∧x.1<wr.heap.size
 nr:∀ x ∈ ab,va.ownBlock≠some x.1
 nd:(ab.map (·.1)).Nodup
 below:Below w.heap.size w wr
theorem rows_keep {w w':World} {L n vb:Nat} {f:Nat→List Nat} {vs:Nat→Value} (h:RwIn w L n f vs) (hlo:∀ p,p<n→∀ k,(vs p).ownBlock=some k→k<vb) (_hL:L<vb) (hb:∀ b,b=L∨(L<b∧b<vb∧∃ p,p<n∧(vs p).ownBlock=some b)→w'.heap[b]?=w.heap[b]?):RwIn w' L n f vs where
 row:=h.row.of_block (hb L (.inl rfl))
 own:=fun p hp=>by
  refine ⟨(h.own p hp).1,?_⟩
  rcases (h.own p hp).2 with hn | ⟨g,cap,cur,hv,hbs,hg,rest⟩
  · exact .inl hn
  · have e:(vs p).ownBlock=some g:=by rw [hv];rfl
    exact .inr ⟨g,cap,cur,hv,hbs,(hb g (.inr ⟨hbs,hlo p hp g e,p,hp,e⟩)).trans hg,rest⟩
 apart:=h.apart
theorem NewA.next {w wr w5 w7:World} {g:Gf} {c:Array Value} {n L M vb nv i z gg cap:Nat} {vs:Nat→Value} {va:Value} {ab:List (Nat × Nat)} (h:NewA w g c n L M vb nv vs i va ab wr) (hwL:w.heap.size≤L) (hLM:L<M) (hMv:M<vb) (hlt:i<g.ar.length) (hz:zerosA g.ar[i]=z) {o4 oB:Obj} (h5:wr.alloc o4=w5)
    (hg7:((w5.alloc (.cells (intsV (List.replicate z 0)) 2)).alloc oB).grownBy w7 va.ownBlock) (hrow:w7.ownsRow (vb+1) 42 1 (.slice (some ⟨gg,0,none⟩) (i+1) cap) (i+1) (ab.map rowV++[rowV (w5.heap.size,z)])) (hat:va.ownBlock=some gg∨gg=w5.heap.size+2) :
    NewA w g c n L M vb nv vs (i+1) (.slice (some ⟨gg,0,none⟩) (i+1) cap) (ab++[(w5.heap.size,z)]) (w7.setCell ⟨M,1,none⟩ (.slice (some ⟨gg,0,none⟩) (i+1) cap)):=by
 have hs5:wr.heap.size<w5.heap.size:=by rw [← h5,World.size_alloc];omega
 have hs7:w5.heap.size+2≤w7.heap.size:=by have:=hg7.size;rw [World.size_alloc,World.size_alloc] at this;omega
 have hva:∀ k,va.ownBlock=some k→vb+1≤k∧k<wr.heap.size:=fun k hk=>h.row.lt k hk
 have ho:Only M w7 (w7.setCell ⟨M,1,none⟩ (.slice (some ⟨gg,0,none⟩) (i+1) cap)):=(Only.refl M w7).setCell (p:=⟨M,1,none⟩) rfl _
 have hold:∀ b,b<wr.heap.size→va.ownBlock≠some b→w7.heap[b]?=wr.heap[b]?:=fun b hb hne=>by
  rw [hg7.block b (by rw [World.size_alloc,World.size_alloc];omega) (fun e=>hne e.symm)]
  have e1:=heap_alloc_old (w5.alloc (.cells (intsV (List.replicate z 0)) 2)) oB (r:=b) (by rw [World.size_alloc];omega)
  have e2:=heap_alloc_old w5 (.cells (intsV (List.replicate z 0)) 2) (r:=b) (by omega)
  have e3:=heap_alloc_old wr o4 (r:=b) hb
  rw [h5] at e3
  rw [e1,e2,e3]
 have keep:∀ {b cs t},Blk wr b cs t→va.ownBlock≠some b→Blk w7 b cs t:=fun {b cs t} hb h2=>(hold b hb.lt h2).trans hb
 have hnew:Blk w7 w5.heap.size (intsV (List.replicate z 0)) 2:=blk_grown ((Blk.new w5 _ _).alloc _) hg7 (fun e=>by have:=(hva _ e).2;omega)
 have hb7:Below w.heap.size w w7:=by
  have b4:=h.below.alloc h.below.size o4
  rw [h5] at b4
  have b6:=(b4.alloc b4.size (.cells (intsV (List.replicate z 0)) 2))
  have b6':=b6.alloc b6.size oB
  exact below_grown b6' b6'.size hg7 (fun q hq=>by have:=(hva q hq).1;omega)
 exact
 { mach:=by
     have h1:=(keep h.mach (fun e=>by have:=(hva M e).1;omega)).set 1 (.slice (some ⟨gg,0,none⟩) (i+1) cap)
     rwa [Array.setIfInBounds_setIfInBounds] at h1
   rows:=by
    refine rows_keep (vb:=vb) h.rows (fun p hp k hk=>(h.rlo p hp k hk).2) (by omega) (fun b hb=>?_)
    have hlt2:b<wr.heap.size∧b≠M∧b<vb:=by
     have:=h.vars.lt
     rcases hb with rfl | ⟨h1,h2,p,hp,h3⟩
     · exact ⟨by omega,by omega,by omega⟩
     · have:=h.rlo p hp b h3
       exact ⟨by omega,by omega,by omega⟩
    rw [ho.block b (by omega) hlt2.2.1]
    exact hold b hlt2.1 (fun e=>by have:=(hva b e).1;omega)
   rlo:=h.rlo
   vars:=(keep h.vars (fun e=>by have:=(hva vb e).1;omega)).only ho (by omega)
   row:=by rw [List.map_append];exact ownsRow_only hrow ho (by omega)
   len:=by rw [List.length_append,h.len];rfl
   abl:=by rw [List.map_append,h.abl,take_succ' hlt,List.map_append];simp [hz]
   blk:=fun j hj=>by
    rw [List.length_append] at hj
    by_cases hj1:j<ab.length
    · rw [List.getElem_append_left hj1]
      have hx:=h.lo _ (List.getElem_mem hj1)
      exact (keep (h.blk j hj1) (h.nr _ (List.getElem_mem hj1))).only ho (by omega)
    · have e:j=ab.length:=by simp only [List.length_singleton] at hj;omega
      subst e
      rw [List.getElem_append_right (Nat.le_refl _)]
      simp only [Nat.sub_self,List.getElem_cons_zero]
      have:=h.mach.lt
      exact hnew.only ho (by omega)
   lo:=fun x hx=>by
    have hsz:(w7.setCell ⟨M,1,none⟩ (.slice (some ⟨gg,0,none⟩) (i+1) cap)).heap.size=w7.heap.size:=by simp [World.setCell]
    rw [hsz]
    rcases List.mem_append.1 hx with hx | hx
    · have:=h.lo x hx;omega
    · rw [List.mem_singleton.1 hx]
      have:=h.vars.lt
      exact ⟨by show vb<w5.heap.size;omega,by show w5.heap.size<_;omega⟩
   nr:=fun x hx=>by
    have hgb:(Value.slice (some ⟨gg,0,none⟩) (i+1) cap).ownBlock=some gg:=rfl
    rw [hgb]
    intro e
    have e:=Option.some.inj e
    rcases List.mem_append.1 hx with hx | hx
    · rcases hat with h1 | h1
      · exact h.nr x hx (by rw [h1,e])
      · have:=h.lo x hx;omega
    · rw [List.mem_singleton.1 hx] at e
      simp only at e
      rcases hat with h1 | h1
      · have:=(hva gg h1).2;omega
      · omega
   nd:=by
    rw [List.map_append,List.nodup_append]
    refine ⟨h.nd,by simp,?_⟩
    intro a ha b hb
    simp only [List.map_cons,List.map_nil,List.mem_singleton] at hb
    obtain ⟨x,hx,rfl⟩:=List.mem_map.1 ha
    have:=h.lo x hx
    omega
   below:=hb7.trans (ho.old (by omega) hb7.size) }
def NewSt (w:World) (g:Gf) (sc:List Int):Ending→World→Prop:=fun e w'=>∃ K:Ks,K.ok∧K.g=g∧K.H0=w.heap.size∧K.B1=w'.heap.size∧(K.ab.length=0∨w.heap.size≤K.ar)∧(∃ a c,K.va=.slice a K.ab.length c∧K.ab.length≤c∧c≤maxLen)∧e=.returned (.pointer (some ⟨K.M,0,none⟩))∧Below w.heap.size w w'∧∃ sv ve,Mk K w' 0 0 0 (startG g sc) sv ve
def slA (v:Value):Option Addr:=match v with | .slice a _ _=>a | _=>none
def slC (v:Value):Nat:=match v with | .slice _ _ c=>c | _=>0
theorem NewA.done {w wr:World} {g:Gf} {n L M vb nv cv ca ce:Nat} {vs:Nat→Value} {va sv:Value} {av aa ae:Option Addr} {ab:List (Nat × Nat)} {sc:List Int} (h:NewA w g (machU g (.slice (some ⟨vb,0,none⟩) nv nv) (.slice none 0 0) (.slice none 0 0) av cv aa ca ae ce n L) n L M vb nv vs g.ar.length va ab wr) (hwL:w.heap.size≤L) (hLM:L<M) (hMv:M<vb) (hchk:chkG g=0) (hn:g.pts=(n:Int)) (hnv:g.nv=(nv:Int)) (hfit:∀ e ∈ g.es,fitsI e.an∧fitsI e.bn) (hes:EdsAt w g.es (.slice ae g.es.length ce)) (hsc:IntsAt w w.heap.size sc sv) (hfs:∀ x ∈ sc,fitsI x) :
    NewSt w g sc (.returned (.pointer (some ⟨M,0,none⟩))) (wr.setCell ⟨M,2,none⟩ sv):=by
 have habl:=h.abl
 rw [List.take_length] at habl
 have hMlt:=h.mach.lt
 have hvlt:=h.vars.lt
 have hgn:g.n=n:=by unfold Gf.n;omega
 have hbw:=h.below
 obtain ⟨q0,qf⟩:=chk_zero hchk
 obtain ⟨q1,q2,q3,q4,q5⟩:=out_zero q0
 unfold Go.Proofs.YtmohmggnjldddaaGreatDoor.frm sizedG at qf
 simp only [Bool.and_eq_true,decide_eq_true_eq] at qf
 have hA:g.ar.length≤16:=qf.1.1.1.1
 have hszA:∀ x ∈ g.ar,1≤dSz x∧dSz x≤1024:=fun x hx=>by
  have h1:=List.all_eq_true.1 qf.1.1.1.2 x hx
  unfold szD at h1
  simpa using h1
 obtain ⟨ar,har⟩:∃ ar,va.ownBlock.getD L=ar:=⟨_,rfl⟩
 have harc:(va.ownBlock=some ar∧vb+1≤ar∧ar<wr.heap.size)∨(va.ownBlock=none∧ar=L):=by
  cases hv:va.ownBlock with
  | none=>rw [hv] at har;exact .inr ⟨rfl,har.symm⟩
  | some q =>
    rw [hv] at har
    simp only [Option.getD_some] at har
    subst har
    exact .inl ⟨rfl,h.row.lt q hv⟩
 have ho:Only M wr (wr.setCell ⟨M,2,none⟩ sv):=(Only.refl M wr).setCell (p:=⟨M,2,none⟩) rfl _
 have hsz2:(wr.setCell ⟨M,2,none⟩ sv).heap.size=wr.heap.size:=by simp [World.setCell]
 have hbo:Below w.heap.size w (wr.setCell ⟨M,2,none⟩ sv):=hbw.trans (ho.old (by omega) hbw.size)
 have hrat:=fun p hp=>h.rows.at p hp
 have hlen:=h.len
 have hnone:va.ownBlock=none→ab.length=0:=fun hv=>by
  rcases h.row.2 with ⟨_,h0⟩ | ⟨k,cap,cur,hva,-⟩
  · rw [h.len,h0]
  · rw [hva] at hv
    exact absurd hv (by simp [Value.ownBlock])
 let K:Ks:={ g:=g,M:=M,vb:=vb,va:=va,ar:=ar,ab:=ab,L:=L,fa:=fun p=>slA (vs p),fc:=fun p=>slC (vs p),av:=av,aa:=aa,ae:=ae,cv:=cv,ca:=ca,ce:=ce,H0:=w.heap.size,B1:=(wr.setCell ⟨M,2,none⟩ sv).heap.size }
 have hfixr:∀ p,p<n→∀ k,(vs p).ownBlock=some k→K.fix k:=fun p hp k hk=>by
  have h1:=h.rlo p hp k hk
  refine ⟨by show k<(wr.setCell ⟨M,2,none⟩ sv).heap.size;omega,by show k≠M;omega,by show k≠vb;omega,fun x hx=>?_⟩
  have:=h.lo x hx
  omega
 have hfixL:K.fix L:=⟨by show L<(wr.setCell ⟨M,2,none⟩ sv).heap.size;omega,by show L≠M;omega,by show L≠vb;omega,fun x hx=>by have:=h.lo x hx;omega⟩
 have hok:K.ok :=
  { m0:=by show w.heap.size≤M;omega
    v0:=by show w.heap.size≤vb;omega
    a0:=fun x hx=>by have:=h.lo x hx;show w.heap.size≤x.1;omega
    b0:=hbo.size
    m1:=by show M<(wr.setCell ⟨M,2,none⟩ sv).heap.size;omega
    v1:=by show vb<(wr.setCell ⟨M,2,none⟩ sv).heap.size;omega
    a1:=fun x hx=>by show x.1<(wr.setCell ⟨M,2,none⟩ sv).heap.size;rw [hsz2];exact (h.lo x hx).2
    mv:=by show M≠vb;omega
    ma:=fun x hx=>by have:=h.lo x hx;show M≠x.1;omega
    va':=fun x hx=>by have:=h.lo x hx;show vb≠x.1;omega
    aa:=h.nd
    ar:=by
     rcases harc with h1 | h1
     · exact .inr ⟨by show ar<(wr.setCell ⟨M,2,none⟩ sv).heap.size;omega,by show ar≠M;omega,by show ar≠vb;omega,fun x hx e=>h.nr x hx (by rw [h1.1];exact congrArg some e)⟩
     · exact .inl (hnone h1.1)
    L:=hfixL
    fr:=fun p hp=>by
     have hp':p<n:=by rw [← hgn];exact hp
     obtain ⟨a,c,e1,-,-,-,e2⟩:=hrat p hp'
     rcases e2 with e2 | ⟨k,rfl,-,-,-⟩
     · exact .inl e2
     · exact .inr ⟨k,by show slA (vs p)=_;rw [e1];rfl,hfixr p hp' k (by rw [e1];rfl)⟩
    rows:=by
     rcases h.row.2 with ⟨rfl,h0⟩ | ⟨k,cap,cur,hva,hg,hh,hn,hm,-⟩
     · exact ⟨none,0,by show Value.slice none 0 0=.slice none ab.length 0;rw [hlen,h0],.inl (by show ab.length=0;omega)⟩
     · refine ⟨some ⟨k,0,none⟩,cap,by show va=.slice _ ab.length cap;rw [hlen];exact hva,.inr ?_⟩
       have e:va.ownBlock=some k:=by rw [hva];rfl
       show some (⟨k,0,none⟩:Addr)=some ⟨ar,0,none⟩
       rcases harc with h1 | h1
       · rw [h1.1] at e
         rw [Option.some.inj e]
       · rw [h1.1] at e
         cases e
    eds:=by
     obtain ⟨a,c,e,h1,h2,h3⟩:=hes
     obtain ⟨h4,-,-⟩:=Value.slice.inj e
     rcases h3 with h3 | ⟨b,o,h5,hc⟩
     · exact .inl h3
     · by_cases he0:g.es.length=0
       · exact .inl he0
       · have h6:=World.block_lt_of_cell? w _ (eds_at hc 0 (by omega)).1
         have hbh:b<w.heap.size:=h6
         exact .inr ⟨b,o,h4.trans h5,⟨by have:=hbo.size;show b<(wr.setCell ⟨M,2,none⟩ sv).heap.size;omega,by show b≠M;omega,by show b≠vb;omega,fun x hx=>by have:=h.lo x hx;omega⟩⟩
    chk:=hchk
    na:=by show ab.length=g.ar.length;rw [hlen]
    fit:=hfit
    sz:=fun x hx=>by
     obtain ⟨i,hi,rfl⟩:=List.getElem_of_mem hx
     obtain ⟨hi2,e⟩:=abl_at2 habl i hi
     have:=hszA _ (List.getElem_mem hi2)
     rw [e]
     unfold zerosA
     omega }
 have hr0:ab.length=0∨w.heap.size≤ar:=by
  rcases harc with h1 | h1
  · exact .inr (by omega)
  · exact .inl (hnone h1.1)
 have hcap:∃ a c,K.va=.slice a K.ab.length c∧K.ab.length≤c∧c≤maxLen:=by
  show ∃ a c,va=.slice a ab.length c∧ab.length≤c∧c≤maxLen
  rcases h.row.2 with ⟨rfl,h0⟩ | ⟨k,cap,cur,hva,hg,hh,hn,hm,-⟩
  · exact ⟨none,0,by rw [hlen,h0],by omega,Nat.zero_le _⟩
  · exact ⟨some ⟨k,0,none⟩,cap,by rw [hlen];exact hva,by omega,hm⟩
 refine ⟨K,hok,rfl,rfl,rfl,hr0,hcap,rfl,hbo,sv,.slice none 0 0,?_⟩
 have hnvt:K.nvt=nv:=by show g.nv.toNat=nv;omega
 exact
 { mach:=by
     have h1:=h.mach.set 2 sv
     have e:((machU g (.slice (some ⟨vb,0,none⟩) nv nv) (.slice none 0 0) (.slice none 0 0) av cv aa ca ae ce n L).setIfInBounds 1 va).setIfInBounds 2 sv=machG K 0 0 0 (startG g sc) sv (.slice none 0 0):=by
      unfold machG
      rw [hnvt,show K.g.n=n from hgn,show K.g.pts=(n:Int) from hn]
      rfl
     rw [e] at h1
     exact h1
   evs:=World.ownsRow_nil _ _ _ _
   left:=hsc.below hbo
   vars:=by
    have h1:=h.vars.only ho (by omega)
    show Blk _ vb (intsV (List.replicate g.nv.toNat 0)) _
    rw [hnv,Int.toNat_natCast]
    exact h1
   rows:=fun i hi=>by
    show (wr.setCell ⟨M,2,none⟩ sv).cell? ⟨ar,i,none⟩=some (rowV ab[i])
    have hx:(ab.map rowV)[i]?=some (rowV ab[i]):=by
     have hi':i<ab.length:=hi
     simp [hi']
    rcases harc with h1 | h1
    · have h2:=h.row.cells h1.1 i _ hx
      have h3:wr.cell? ⟨ar,i,none⟩=some (rowV ab[i]):=by simpa [add_none] using h2
      exact only_cell ho h3 (by show ar≠M;omega)
    · have h2:=hnone h1.1
      have hi':i<ab.length:=hi
      omega
   arrs:=fun i hi=>by
    have hi':i<ab.length:=hi
    obtain ⟨hi2,e⟩:=abl_at2 habl i hi'
    have hlo:=h.lo _ (List.getElem_mem hi')
    have hb:=(h.blk i hi').only ho (by omega)
    rw [e] at hb
    have e2:(startG g sc).arrs.getD i []=List.replicate (zerosA g.ar[i]) 0:=by simp [startG,List.getD_eq_getElem?_getD,hi2]
    rw [e2]
    exact hb
   frm:=fun q hq=>by
    have hq':q<n:=by rw [← hgn];exact hq
    obtain ⟨a,c,e1,-,-,e3,e2⟩:=hrat q hq'
    refine ⟨only_cell ho (by show wr.cell? ⟨L,q,none⟩=some (.slice (slA (vs q)) _ (slC (vs q)));rw [e1];exact e3) (by show L≠M;omega),?_⟩
    show NumsAt _ _ (slA (vs q))
    rw [e1]
    rcases e2 with e2 | ⟨k,rfl,-,-,hc⟩
    · exact .inl e2
    · have h1:=h.rlo q hq' k (by rw [e1];rfl)
      exact .inr ⟨k,rfl,fun i hi=>only_cell ho (hc i hi) (by show k≠M;omega)⟩
   eds:=hes.keep (keeps_below hbo)
   size:=Nat.le_refl _
   nv:=by show (List.replicate g.nv.toNat (0:Int)).length=g.nv.toNat;simp
   na:=by show (g.ar.map _).length=ab.length;rw [List.length_map,hlen]
   sz:=fun i hi=>by
    obtain ⟨hi2,e⟩:=abl_at2 habl i hi
    have e2:(startG g sc).arrs.getD i []=List.replicate (zerosA g.ar[i]) 0:=by simp [startG,List.getD_eq_getElem?_getD,hi2]
    rw [e2,List.length_replicate]
    exact e.symm
   few:=Nat.le_refl _
   pt:=by show 0<g.n;omega
   fv:=fun x hx=>by
    have:=List.eq_of_mem_replicate hx
    subst this
    decide
   fa:=fun l hl x hx=>by
    obtain ⟨y,-,rfl⟩:=List.mem_map.1 hl
    have:=List.eq_of_mem_replicate hx
    subst this
    decide
   fl:=hfs }
end Go.Proofs.YtmohmggnjldddaaGreatDoor
