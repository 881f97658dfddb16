/-
  A region that draws its order, whose operations read, or call what leaves older memory: proved is that it ends with each operation's value in its place, whatever its order, if each operation gives its value when those that it waits for have given theirs.
-/
import Derived.Test.YtmohmggnjldddaaGreatDoorQStA
import Derived.Test.YtmohmggnjldddaaGreatDoorQTourG
import Derived.Test.YtmohmggnjldddaaGreatDoorQGrD
import Derived.StillTailTactics
import Derived.RegionTactic
import Derived.Test.YtmohmggnjldddaaGreatDoorQAbb
namespace Go.Proofs.YtmohmggnjldddaaGreatDoor
set_option maxHeartbeats 8000000
set_option maxRecDepth 100000
open Go Go.RowKit Go.Maps
theorem info_icell:(Tryz.prog.info? 3).map (fun i=>(i.zero,i.size,i.bytes))=some (some (.int .i64 0),1,8):=by kernel_rfl
theorem info_rows:(Tryz.prog.info? 113).map (fun i=>(i.zero,i.size,i.bytes))=some (some (.slice none 0 0),1,24):=by kernel_rfl
theorem one_int (x:Int):∀ u ∈ [Value.int .i64 x],u.oneCell'=true:=by
 intro u hu
 rw [List.mem_singleton.1 hu]
 rfl
theorem efrom_any (g:Gf) (av aa ae:Option Addr) (cv ca ce n:Nat) (hn:g.pts=(n:Int)) (hn1:n≤4096) (hm:g.es.length≤8192) (w:World) (hes:EdsAt w g.es (.slice ae g.es.length ce)) (hfr:∀ e ∈ g.es,0≤e.fr∧e.fr<g.pts) :
    Calls Tryz.prog 84 #[grS g av cv aa ca ae ce] w (fun e w'=>∃ L vs,e=.returned (.slice (some ⟨L,0,none⟩) n n)∧w.heap.size≤L∧RwIn w' L n (outL g.es) vs∧Below w.heap.size w w'):=by
 obtain ⟨a,c,hs,hlc,hcm,hrow⟩:=hes
 cases hs
 show Calls Tryz.prog 84 #[.agg #[.slice av g.vs.length cv,.int .i64 g.tmp,.slice aa g.ar.length ca,.int .i64 g.pts,.int .i64 g.ext,.slice ae g.es.length ce]] w _
 rw [hn] at hfr ⊢
 obtain ⟨W1,hW1⟩:∃ W1,w.alloc (.cells #[.slice av g.vs.length cv,.int .i64 g.tmp,.slice aa g.ar.length ca,.int .i64 (n:Int),.int .i64 g.ext,.slice ae g.es.length ce] 30)=W1:=⟨_,rfl⟩
 obtain ⟨X,hX⟩:∃ X,w.heap.size=X:=⟨_,rfl⟩
 have hx1:Blk W1 X #[.slice av g.vs.length cv,.int .i64 g.tmp,.slice aa g.ar.length ca,.int .i64 (n:Int),.int .i64 g.ext,.slice ae g.es.length ce] 30:=by rw [← hW1,← hX];exact Blk.new w _ _
 have hb1:Below w.heap.size w W1:=by rw [← hW1];exact (Below.refl _ w).alloc (Nat.le_refl _) _
 obtain ⟨L,hL⟩:∃ L,W1.heap.size=L:=⟨_,rfl⟩
 have hXL:X+1=L:=by rw [← hL,← hW1,World.size_alloc,hX]
 obtain ⟨W2,hW2⟩:∃ W2,W1.alloc (.cells (madeCells #[.slice none 0 0] n) 113)=W2:=⟨_,rfl⟩
 have hr2:RwIn W2 L n (outT g.es 0) (fun _=>.slice none 0 0):=by
  rw [← hW2,← hL]
  exact (RwIn.made W1 n).congr (fun p _=>by simp [outT])
 have hx2:Blk W2 X #[.slice av g.vs.length cv,.int .i64 g.tmp,.slice aa g.ar.length ca,.int .i64 (n:Int),.int .i64 g.ext,.slice ae g.es.length ce] 30:=by rw [← hW2];exact hx1.alloc _
 have hb2:Below w.heap.size w W2:=by rw [← hW2];exact hb1.alloc hb1.size _
 have x3:W1.cell? ⟨X,3,none⟩=some (.int .i64 (n:Int)):=hx1.cell 3
 have x5:W2.cell? ⟨X,5,none⟩=some (.slice ae g.es.length ce):=hx2.cell 5
 have HMK:=fun w=>run_make_row' 92 113 (.slice none 0 0) 24 (P:=Tryz.prog) (by kernel_rfl) info_rows rfl .i64 .i64 n (by omega) (by omega) w
 obtain ⟨i0,hi0,hz0,hz1,hz2⟩:=info_parts info_icell
 have HI0:=zh (za hi0 (za hz0 (za hz1 hz2)))
 have HROW:=zh hrow
 have HFR:=zh hfr
 have H2:=zh (za hr2 (za hb2 (za hn1 (za hm hXL))))
 have HE:=zh (za hW1 (za hX (za hW2 hL)))
 clear hrow hfr hr2 hb2 hx1 hx2 hb1 hXL hn1 hW1 hX hW2 hL hi0 hz0 hz1 hz2 hlc hcm hn
 go_enter Tryz.func84,Tryz.ntmps84
 go_upto_region 1 with fail
 rw [HE.out.1,HE.out.2.1]
 go_upto_region 2 with fail
 rw [HE.out.2.2.1,HE.out.2.2.2]
 go_wp2_with fail
 go_loopw [12] (fun x wr=>∃ (i:Nat) (vs:Nat→Value),x=.int .i64 i∧i≤g.es.length∧RwIn wr L n (outT g.es i) vs∧Below L W2 wr) (fun x _=>g.es.length - (intOf x).toNat)
 case atStart=>exact ⟨0,_,rfl,by omega,H2.out.1,Below.refl _ _⟩
 case round =>
  obtain ⟨i,vs,rfl,hi,hrw,hbr⟩:=hrel
  clear x3 HMK
  have hLs:L<W2.heap.size:=H2.out.1.row.lt
  have HBR:=zh (za hbr (za hrw hLs))
  clear hbr hrw hLs
  by_cases hlt:i<g.es.length
  · have hbi:(i:Int)+1≤9223372036854775807:=by omega
    obtain ⟨b,o,rfl,hc⟩:=HROW.out.resolve_left (by omega)
    have hbw:Below w.heap.size w wr:=H2.out.2.1.trans (HBR.out.1.mono (by have:=HE.out.2.1;have:=H2.out.2.2.2.2;omega))
    obtain ⟨k0,k1,k2,k3,k4,k5,k6,k7,k8,k9⟩:=eds_at hc i hlt
    have kk:=keeps_below hbw
    have m0:=kk _ _ _ k0
    have m1:=kk _ _ _ k1
    have m2:=kk _ _ _ k2
    have m3:=kk _ _ _ k3
    have m4:=kk _ _ _ k4
    have m5:=kk _ _ _ k5
    have m6:=kk _ _ _ k6
    have m7:=kk _ _ _ k7
    have m8:=kk _ _ _ k8
    have m9:=kk _ _ _ k9
    have hf:=HFR.out g.es[i] (List.getElem_mem hlt)
    obtain ⟨e,he⟩:∃ e,g.es[i]=e:=⟨_,rfl⟩
    have hge:g.es.getD i noE=e:=by rw [List.getD_eq_getElem?_getD,List.getElem?_eq_getElem hlt,Option.getD_some,he]
    rw [he] at m0 m1 m2 m3 m4 m5 m6 m7 m8 m9 hf
    obtain ⟨P,hP⟩:∃ P:Nat,e.fr=P:=⟨e.fr.toNat,by omega⟩
    rw [hP] at m0 hf
    have hPn:P<n:=by omega
    have hPi:(P:Int)<(n:Int):=hf.2
    obtain ⟨Y,hY⟩:∃ Y,wr.heap.size=Y:=⟨_,rfl⟩
    obtain ⟨W3,hW3⟩:∃ W3,wr.alloc (.cells #[.int .i64 (P:Int),.int .i64 e.dt,.int .i64 e.kd,.int .i64 e.dst,.int .i64 e.arr,.int .i64 e.op,.int .i64 e.av,.int .i64 e.an,.int .i64 e.bv,.int .i64 e.bn] 40)=W3:=⟨_,rfl⟩
    have hy3:Blk W3 Y #[.int .i64 (P:Int),.int .i64 e.dt,.int .i64 e.kd,.int .i64 e.dst,.int .i64 e.arr,.int .i64 e.op,.int .i64 e.av,.int .i64 e.an,.int .i64 e.bv,.int .i64 e.bn] 40:=by rw [← hW3,← hY];exact Blk.new wr _ _
    have hb3:Below wr.heap.size wr W3:=by rw [← hW3];exact (Below.refl _ wr).alloc (Nat.le_refl _) _
    have hr3:=HBR.out.2.1.below hb3
    obtain ⟨V,hV⟩:∃ V,vs P=V:=⟨_,rfl⟩
    have hrc:=hr3.row.cell hPn
    have hrf:=hr3.row.frozen P
    have hro:=hr3.own P hPn
    rw [hV] at hrc hro
    have hVL:∀ k,V.ownBlock=some k→L+1≤k:=fun k hk=>(hro.lt k hk).1
    have hyY:∀ k,V.ownBlock=some k→k≠Y:=fun k hk e=>by
     have:=((HBR.out.2.1.own P hPn).lt k (by rw [hV];exact hk)).2
     omega
    have hr4:=fun o=>hr3.below ((Below.refl W3.heap.size W3).alloc (Nat.le_refl _) o)
    have hrc4:∀ o,(W3.alloc o).cell? ⟨L,P,none⟩=some V:=fun o=>by rw [← hV];exact (hr4 o).row.cell hPn
    have y0:W3.cell? ⟨Y,0,none⟩=some (.int .i64 (P:Int)):=hy3.cell 0
    have y4:∀ o,(W3.alloc o).cell? ⟨Y,0,none⟩=some (.int .i64 (P:Int)):=fun o=>(hy3.alloc o).cell 0
    obtain ⟨N,hN⟩:∃ N,(outT g.es i P).length=N:=⟨_,rfl⟩
    have hNi:N≤i:=by rw [← hN];exact outT_len _ _ _
    rw [hN] at hro
    obtain ⟨CS,hCS⟩:∃ C,cellsN (outT g.es i P)=C:=⟨_,rfl⟩
    rw [hCS] at hro
    have hLW:L<W3.heap.size:=hr3.row.lt
    have HRO:=zh hro
    have HG:=zh (za hy3 (za hb3 (za hV (za hN (za hCS (za hVL (za hyY (za hge (za hP (za hNi (za hPn (za hLW (za hr3.row hm)))))))))))))
    have HW3:=zh (za hW3 hY)
    clear hbw k0 k1 k2 k3 k4 k5 k6 k7 k8 k9 kk hf he hge hP hPn hy3 hb3 hr3 hV hro hVL hyY hr4 hN hCS hNi hLW hc hW3 hY hm
    go_upto_region 5 with fail
    rw [HW3.out.1,HW3.out.2]
    go_region_law
     (refine step_append_lies _ (by rfl) _ _ _ (by rfl) (L+1) 3 i0 _ 1 8 Tryz.underlying113 HI0.out.1 HI0.out.2.1 HI0.out.2.2.1 HI0.out.2.2.2 rfl (by omega) V N CS (by rfl) (HRO.out.drew.alloc _) ⟨W3.heap.size,0,none⟩ 1 1 [.int .i64 (i:Int)] (by rfl) (by rfl) (World.news_of_block (cs:=#[.int .i64 (i:Int)]) (t:=3) (fr:=(0,0)) (heap_alloc_new W3.drew _)) (one_int _) (by omega) (by unfold maxLen;have:=HG.out.2.2.2.2.2.2.2.2.2.1;have:=HG.out.2.2.2.2.2.2.2.2.2.2.2.2.2;omega) (by have:=HG.out.2.2.2.2.2.2.2.2.2.1;have:=HG.out.2.2.2.2.2.2.2.2.2.2.2.2.2;omega) (by simp;have:=HG.out.2.2.2.2.2.2.2.2.2.2.2.1;omega) (W3.heap.size+1) (by simp) ?_
      intro gg cap w2 hown2 hgrow hat hlt2
      have q0:w2.cell? ⟨Y,0,none⟩=some (.int .i64 (P:Int)):=(blk_grown ((show Blk W3.drew Y _ _ from HG.out.1).alloc _) hgrow (fun e=>HG.out.2.2.2.2.2.2.1 _ e rfl)).cell 0
      have hL2:w2.rowIs L 113 n vs:=(HG.out.2.2.2.2.2.2.2.2.2.2.2.2.1.drew.alloc _).of_block (hgrow.block L (by simp;have:=HG.out.2.2.2.2.2.2.2.2.2.2.2.1;omega) (fun e=>by have:=HG.out.2.2.2.2.2.1 L e.symm;omega))
      have q1:=hL2.cell HG.out.2.2.2.2.2.2.2.2.2.2.1
      have q2:=hL2.frozen P)
    all_goals
     go_wp2_with fail
     go_roundw
     case rel =>
      obtain ⟨-,hb3,hV,hN,hCS,hVL,hyY,hge,hP,hNi,hPn,hLW,-,hm⟩:=HG.out
      have hb4:Below wr.heap.size wr (W3.drew.alloc (.cells #[.int .i64 (i:Int)] 3)):=hb3.drew.alloc (by have:=hb3.size;exact this) _
      have hat2:(vs P).ownBlock=some gg∨gg=(W3.drew.alloc (.cells #[.int .i64 (i:Int)] 3)).heap.size:=by
       rw [hV]
       exact hat.imp id fun h=>by rw [h,World.size_alloc];rfl
      have hpush:=HBR.out.2.1.push hb4 (p:=P) (x:=i) hPn (by rw [hN,hCS];exact hown2) (by rw [hV];exact hgrow) (gg:=gg) rfl hat2
      refine ⟨i+1,_,by go_num,by omega,hpush.congr (fun p _=>?_),?_⟩
      · rw [outT_succ,hge,hP]
        by_cases e2:p=P
        · subst e2;simp
        · have:((P:Int)==(p:Int))=false:=by simp;omega
          rw [if_neg e2,this];simp
      · have h5:=HBR.out.1.trans (hb4.mono (Nat.le_of_lt HBR.out.2.1.row.lt))
        exact (h5.grown hgrow (Nat.le_trans (Nat.le_of_lt HBR.out.2.2) h5.size) (fun k hk=>by have:=hVL k hk;omega)).setCell (Nat.le_refl L) _
     case measure=>simp [intOf];omega
  · obtain rfl:i=g.es.length:=by omega
    go_wp2_with fail
    go_ret
    exact ⟨L,vs,rfl,by have:=HE.out.2.1;have:=H2.out.2.2.2.2;omega,HBR.out.2.1,H2.out.2.1.trans (HBR.out.1.mono (by have:=HE.out.2.1;have:=H2.out.2.2.2.2;omega))⟩
def NumsAt (w:World) (l:List Nat) (a:Option Addr):Prop:=l.length=0∨∃ b,a=some ⟨b,0,none⟩∧∀ i (hi:i<l.length),w.cell? ⟨b,i,none⟩=some (.int .i64 (l[i]:Int))
theorem NumsAt.keep {w w':World} {l:List Nat} {a:Option Addr} (h:NumsAt w l a) (hk:Keeps w w'):NumsAt w' l a:=h.imp id fun ⟨b,h1,h2⟩=>⟨b,h1,fun i hi=>hk _ _ _ (h2 i hi)⟩
theorem together_any (g:Gf) (av aa ae:Option Addr) (cv ca ce:Nat) (l:List Nat) (a:Option Addr) (c:Nat) (w:World) (hes:EdsAt w g.es (.slice ae g.es.length ce)) (hl:∀ x ∈ l,x<g.es.length) (hll:l.length≤1099511627776) (hrow:NumsAt w l a) :
    Calls Tryz.prog 85 #[grS g av cv aa ca ae ce,.slice a l.length c] w (fun r w'=>r=.returned (.bool (tog g.es l))∧Below w.heap.size w w'):=by
 obtain ⟨W1,hW1⟩:∃ W1,w.alloc (.cells (grB g av cv aa ca ae ce) 153)=W1:=⟨_,rfl⟩
 obtain ⟨X,hX⟩:∃ X,w.heap.size=X:=⟨_,rfl⟩
 have hx:Blk W1 X (grB g av cv aa ca ae ce) 153:=by rw [← hW1,← hX];exact Blk.new w _ _
 have hb1:Below w.heap.size w W1:=by rw [← hW1];exact (Below.refl _ w).alloc (Nat.le_refl _) _
 have hrow1:=hrow.keep (keeps_below hb1)
 have hes1:=hes.keep (keeps_below hb1)
 obtain ⟨_,_,hs,-,-,her⟩:=hes1
 cases hs
 have x5:W1.cell? ⟨X,5,none⟩=some (.slice ae g.es.length ce):=hx.cell 5
 have H1:=zh (za hx (za hb1 her))
 have HE:=zh (za hW1 hX)
 clear hx hb1 her hW1 hX hrow hes
 have hcase:l=[]∨(∃ x,l=[x])∨(∃ x y,l=[x,y])∨(3≤l.length∧tog g.es l=false):=by
  match l with
  | []=>exact .inl rfl
  | [x]=>exact .inr (.inl ⟨x,rfl⟩)
  | [x,y]=>exact .inr (.inr (.inl ⟨x,y,rfl⟩))
  | x :: y :: z :: r=>exact .inr (.inr (.inr ⟨by simp,rfl⟩))
 rcases hcase with rfl | ⟨x,rfl⟩ | ⟨x,y,rfl⟩ | ⟨hm3,htf⟩
 · clear hl hrow1 hll
   go_enter Tryz.func85,Tryz.ntmps85
   go_upto_region 1 with fail
   simp only [HE.out.1,HE.out.2]
   go_wp2_with fail
   go_ret
   exact ⟨rfl,H1.out.2.1⟩
 · obtain ⟨b,rfl,hc⟩:=hrow1.resolve_left (by simp)
   have n0:W1.cell? ⟨b,0,none⟩=some (.int .i64 (x:Int)):=hc 0 (by simp)
   have hxl:x<g.es.length:=hl x (by simp)
   have hxi:(x:Int)<(g.es.length:Int):=by omega
   obtain ⟨eb,eo,rfl,he⟩:=H1.out.2.2.resolve_left (by omega)
   obtain ⟨-,-,k2,-⟩:=eds_at he x hxl
   have hge:g.es.getD x noE=g.es[x]:=by rw [List.getD_eq_getElem?_getD,List.getElem?_eq_getElem hxl,Option.getD_some]
   have hr:tog g.es [x]=(g.es[x].kd != 12):=by show ((g.es.getD x noE).kd != 12)=_;rw [hge]
   rw [hr]
   obtain ⟨K,hK⟩:∃ k,g.es[x].kd=k:=⟨_,rfl⟩
   rw [hK] at k2 ⊢
   have hl1:(([x]:List Nat).length:Int)=1:=rfl
   clear hr hge hK he hl hll hc hrow1
   go_enter Tryz.func85,Tryz.ntmps85
   go_upto_region 1 with fail
   simp only [HE.out.1,HE.out.2]
   go_upto_region 5 with fail
   go_quiet (fail)
   go_wp2_with fail
   go_ret
   exact ⟨rfl,⟨H1.out.2.1.os,H1.out.2.1.tape,H1.out.2.1.output,H1.out.2.1.size,H1.out.2.1.block⟩⟩
 · obtain ⟨b,rfl,hc⟩:=hrow1.resolve_left (by simp)
   have n0:W1.cell? ⟨b,0,none⟩=some (.int .i64 (x:Int)):=hc 0 (by simp)
   have n1:W1.cell? ⟨b,1,none⟩=some (.int .i64 (y:Int)):=hc 1 (by simp)
   have hxl:x<g.es.length:=hl x (by simp)
   have hyl:y<g.es.length:=hl y (by simp)
   have hxi:(x:Int)<(g.es.length:Int):=by omega
   have hyi:(y:Int)<(g.es.length:Int):=by omega
   obtain ⟨eb,eo,rfl,he⟩:=H1.out.2.2.resolve_left (by omega)
   obtain ⟨k0,k1,k2,k3,k4,k5,k6,k7,k8,k9⟩:=eds_at he x hxl
   obtain ⟨j0,j1,j2,j3,j4,j5,j6,j7,j8,j9⟩:=eds_at he y hyl
   have hgx:g.es.getD x noE=g.es[x]:=by rw [List.getD_eq_getElem?_getD,List.getElem?_eq_getElem hxl,Option.getD_some]
   have hgy:g.es.getD y noE=g.es[y]:=by rw [List.getD_eq_getElem?_getD,List.getElem?_eq_getElem hyl,Option.getD_some]
   have hr:tog g.es [x,y]=ctr g.es[x] g.es[y]:=by show ctr (g.es.getD x noE) (g.es.getD y noE)=_;rw [hgx,hgy]
   rw [hr]
   obtain ⟨e,he1⟩:∃ k,g.es[x]=k:=⟨_,rfl⟩
   obtain ⟨f,hf1⟩:∃ k,g.es[y]=k:=⟨_,rfl⟩
   rw [he1] at k0 k1 k2 k3 k4 k5 k6 k7 k8 k9
   rw [hf1] at j0 j1 j2 j3 j4 j5 j6 j7 j8 j9
   rw [he1,hf1]
   have HC:=fun w=>contrary_any e f w
   obtain ⟨R,hR⟩:∃ r,ctr e f=r:=⟨_,rfl⟩
   rw [hR] at HC ⊢
   clear hr hgx hgy he1 hf1 hR he hl hll hc hrow1 hxl hyl
   go_enter Tryz.func85,Tryz.ntmps85
   go_upto_region 1 with fail
   simp only [HE.out.1,HE.out.2]
   go_upto_region 7 with fail
   go_still_tail 14,(by kernel_rfl)
   change wpList _ _ _ _ _ W1.drew
   go_wp2_with (first | (go_at_call 127;(with_reducible refine (HC _).mono ?_);rintro q w2 ⟨rfl,hb2⟩) | fail)
   go_ret
   exact ⟨rfl,bel H1.out.2.1 ((Below.refl W1.heap.size W1).drew.trans hb2)⟩
 · rw [htf]
   obtain ⟨m,hm⟩:∃ m,l.length=m:=⟨_,rfl⟩
   rw [hm] at hll hm3 ⊢
   have e0:((m:Int)==0)=false:=by simp;omega
   have e1:((m:Int)==1)=false:=by simp;omega
   have e2:((m:Int)==2)=false:=by simp;omega
   clear hl hrow1 hm hm3 htf
   go_enter Tryz.func85,Tryz.ntmps85
   go_upto_region 1 with fail
   simp only [HE.out.1,HE.out.2]
   go_wp2_with fail
   go_ret
   exact ⟨rfl,H1.out.2.1⟩
theorem all_rows (g:Gf) (av aa ae:Option Addr) (cv ca ce n L:Nat) (vs:Nat→Value) (w:World) (hr:RwIn w L n (outL g.es) vs) (hes:EdsAt w g.es (.slice ae g.es.length ce)) (hn:n≤4096) (hne:g.es.length≤8192) :
    Calls Tryz.prog 83 #[.slice (some ⟨L,0,none⟩) n n,.func (.func 85) #[grS g av cv aa ca ae ce] #[]] w (fun e w'=>e=.returned (.bool ((List.range n).all fun p=>tog g.es (outL g.es p)))∧Below w.heap.size w w'):=by
 obtain ⟨PR,hPR⟩:∃ p,(fun p=>tog g.es (outL g.es p))=p:=⟨_,rfl⟩
 rw [hPR]
 obtain ⟨R,hR⟩:∃ R,(List.range n).all PR=R:=⟨_,rfl⟩
 rw [hR]
 have hR0:R=((List.range n).drop 0).all PR:=by rw [List.drop_zero];exact hR.symm
 have HH:=zh (za hr (za hes (za hne hPR)))
 clear hr hes hR hPR
 go_enter Tryz.func83,Tryz.ntmps83
 go_wp2_with fail
 go_loopw [9] (fun x wr=>∃ i:Nat,x=.int .i64 i∧i≤n∧R=((List.range n).drop i).all PR∧Below w.heap.size w wr) (fun x _=>n - (intOf x).toNat)
 case atStart=>exact ⟨0,rfl,by omega,hR0,Below.refl _ _⟩
 case round =>
  obtain ⟨i,rfl,hi,hRi,hbr⟩:=hrel
  clear hR0
  have HBR:=zh hbr
  by_cases hlt:i<n
  · have hbi:(i:Int)+1≤9223372036854775807:=by omega
    obtain ⟨a,c,hv,hlc,hcm,hcl,hrow⟩:=HH.out.1.at i hlt
    have hc2:=keeps_below hbr _ _ _ hcl
    rw [all_drop PR (List.range n) i (by simpa using hlt),List.getElem_range] at hRi
    have hPi:PR i=tog g.es (outL g.es i):=by rw [← HH.out.2.2.2]
    have hll:(outL g.es i).length≤g.es.length:=outT_len _ _ _
    have HS:=zh (together_any g av aa ae cv ca ce (outL g.es i) a c wr (HH.out.2.1.keep (keeps_below hbr)) (fun x hx=>(outT_lt hx).1) (by have:=HH.out.2.2.1;omega) (hrow.imp id fun ⟨b,h1,_,_,h4⟩=>⟨b,h1,fun k hk=>keeps_below hbr _ _ _ (h4 k hk)⟩))
    rw [← hPi] at HS
    obtain ⟨B,hB⟩:∃ B,PR i=B:=⟨_,rfl⟩
    rw [hB] at hRi HS
    obtain ⟨ll,hl⟩:∃ k,(outL g.es i).length=k:=⟨_,rfl⟩
    rw [hl] at hc2 HS
    have HRI:=zh hRi
    clear hbr hv hlc hcm hcl hrow hPi hll hB hRi hl
    cases B with
    | false =>
      go_wp2_with (first | (go_at_call 85;(with_reducible refine HS.out.mono ?_);rintro e w2 ⟨rfl,hb2⟩) | fail)
      go_ret
      exact ⟨by rw [HRI.out];rfl,HBR.out.trans (hb2.mono HBR.out.size)⟩
    | true =>
      go_wp2_with (first | (go_at_call 85;(with_reducible refine HS.out.mono ?_);rintro e w2 ⟨rfl,hb2⟩) | fail)
      go_roundw
      case rel=>exact ⟨i+1,by go_num,by omega,by rw [HRI.out];rfl,HBR.out.trans (hb2.mono HBR.out.size)⟩
      case measure=>simp [intOf];omega
  · obtain rfl:i=n:=by omega
    clear hbr
    go_wp2_with fail
    go_ret
    exact ⟨by rw [hRi,List.drop_eq_nil_of_le (by simp)];rfl,HBR.out⟩
open Go Go.RowKit
theorem cnt_set {l:List Bool} {i:Nat} (h:l[i]?=some false):(l.set i true).count false+1=l.count false:=by
 induction l generalizing i with
 | nil=>cases h
 | cons x r ih =>
   cases i with
   | zero=>simp at h;subst h;simp
   | succ i =>
     have:=ih (i:=i) (by simpa using h)
     simp only [List.set_cons_succ,List.count_cons]
     omega
theorem wpAny_iv {P:Program} {ops:Array Oper} {Q:Exit→Act→World→Prop} {md:Region.Mode} (I:Array Bool→Act→World→Prop)
    (hs:∀ l a w,I l a w→∀ i o,ops[i]?=some o→l.getD i true=false→(∀ e ∈ o.after,Region.binds md e=true→l.getD e.on false=true)→wpOp P ops Q i (fun a' w'=>I (l.setIfInBounds i true) a' w') a w)
    (hd:∀ l a w,I l a w→Region.ready md ops l=[]→Q .normal a w):∀ n l a w,l.toList.count false≤n→I l a w→wpAny P md ops Q n l a w
 | 0,l,a,w,hn,hI=>by
   have hr:Region.ready md ops l=[]:=by
    refine List.eq_nil_iff_forall_not_mem.2 fun i hi=>?_
    obtain ⟨h0,-⟩:=mem_ready.1 hi
    have hm:false ∈ l.toList:=by
     have hlt:i<l.size:=by
      rcases Nat.lt_or_ge i l.size with h' | h'
      · exact h'
      · simp [Array.getElem?_eq_none h'] at h0
     have:l[i]=false:=by simpa [hlt] using h0
     rw [← this]
     simp
    have:=List.count_pos_iff.2 hm
    omega
   exact ⟨hr,hd l a w hI hr⟩
 | n+1,l,a,w,hn,hI=>by
   refine ⟨hd l a w hI,fun i hi=>?_⟩
   obtain ⟨h0,o,ho,hall⟩:=mem_ready.1 hi
   refine wpOp_mono (fun a' w' h=>wpAny_iv I hs hd n _ a' w' ?_ h) (hs l a w hI i o ho h0 hall)
   have hlt:i<l.size:=by
    rcases Nat.lt_or_ge i l.size with h' | h'
    · exact h'
    · simp [Array.getElem?_eq_none h'] at h0
   have h1:l.toList[i]?=some false:=by
    have:l[i]=false:=by simpa [hlt] using h0
    simp [hlt,this]
   have:=cnt_set h1
   rw [Array.toList_setIfInBounds]
   omega
theorem all_up {md:Region.Mode} {ops:Array Oper} (hord:((List.range ops.size).all fun j=>((ops[j]?).map (fun o=>o.after.all fun e=>decide (e.on<j))).getD true)=true) (l:Array Bool) (hr:Region.ready md ops l=[]) (hl:l.size=ops.size):∀ j,j<ops.size→l.getD j false=true:=by
 intro j
 induction j using Nat.strongRecOn with
 | ind j ih =>
   intro hj
   cases hv:l.getD j false with
   | true=>rfl
   | false =>
     exfalso
     have hlt:j<l.size:=by omega
     have h0:l.getD j true=false:=by
      simp [hlt] at hv ⊢
      exact hv
     have ho:ops[j]?=some ops[j]:=Array.getElem?_eq_getElem hj
     have hm:j ∈ Region.ready md ops l:=mem_ready.2 ⟨h0,_,ho,fun e he _=>by
      have h1:=List.all_eq_true.1 hord j (List.mem_range.2 hj)
      rw [ho] at h1
      simp only [Option.map_some,Option.getD_some] at h1
      have h2:=Array.all_eq_true_iff_forall_mem.1 h1 e he
      have h3:e.on<j:=by simpa using h2
      exact ih e.on h3 (by omega)⟩
     rw [hr] at hm
     cases hm
def putF:List Tmp→(Nat→Value)→Nat→Act→Act
 | [],_,_,a=>a
 | t :: r,vs,i,a=>putF r vs (i+1) (a.put (some t) (vs i))
def valsAt (vals:List Value) (i:Nat):Value:=vals.getD i undef
theorem put_get (a:Act) (t s:Tmp) (v:Value):(a.put (some t) v).tmps[s]?=if t=s then (if t<a.tmps.size then some v else none) else a.tmps[s]?:=by
 show (a.tmps.setIfInBounds t v)[s]?=_
 rw [Array.getElem?_setIfInBounds]
theorem put_size (a:Act) (t:Tmp) (v:Value):(a.put (some t) v).tmps.size=a.tmps.size:=by
 show (a.tmps.setIfInBounds t v).size=_
 simp
theorem putF_size:∀ (ds:List Tmp) (vs:Nat→Value) (k:Nat) (a:Act),(putF ds vs k a).tmps.size=a.tmps.size
 | [],_,_,_=>rfl
 | t :: r,vs,k,a=>by rw [putF,putF_size r,put_size]
theorem putF_defers:∀ (ds:List Tmp) (vs:Nat→Value) (k:Nat) (a:Act),(putF ds vs k a).defers=a.defers
 | [],_,_,_=>rfl
 | t :: r,vs,k,a=>by rw [putF,putF_defers r];rfl
theorem putF_other:∀ (ds:List Tmp) (vs:Nat→Value) (k:Nat) (a:Act) (t:Tmp),t ∉ ds→(putF ds vs k a).tmps[t]?=a.tmps[t]?
 | [],_,_,_,_,_=>rfl
 | s :: r,vs,k,a,t,h=>by
   simp only [List.mem_cons,not_or] at h
   rw [putF,putF_other r vs (k+1) _ t h.2,put_get,if_neg (fun e=>h.1 e.symm)]
theorem putF_at:∀ (ds:List Tmp) (vs:Nat→Value) (k:Nat) (a:Act) (j:Nat) (hj:j<ds.length),ds.Nodup→ds[j]<a.tmps.size→(putF ds vs k a).tmps[ds[j]]?=some (vs (k+j))
 | [],_,_,_,_,hj,_,_=>by simp at hj
 | s :: r,vs,k,a,0,_,hn,hs=>by
   rw [List.nodup_cons] at hn
   simp only [List.getElem_cons_zero] at hs ⊢
   rw [putF,putF_other r vs (k+1) _ s hn.1,put_get,if_pos rfl,if_pos hs]
   rfl
 | s :: r,vs,k,a,j+1,hj,hn,hs=>by
   rw [List.nodup_cons] at hn
   simp only [List.getElem_cons_succ] at hs ⊢
   rw [putF,putF_at r vs (k+1) _ j (by simpa using hj) hn.2 (by rw [put_size];exact hs),show k+1+j=k+(j+1) by omega]
theorem wpAny_vals {P:Program} {ops:Array Oper} {Q:Exit→Act→World→Prop} {md:Region.Mode} {a:Act} {w:World} (ds:List Tmp) (vals:List Value) (J:World→Prop) (hn:ops.size=ds.length)
    (hord:((List.range ops.size).all fun j=>((ops[j]?).map (fun o=>o.after.all fun e=>decide (e.on<j))).getD true)=true) (hnd:ds.Nodup) (hsz:(ds.all fun t=>decide (t<a.tmps.size))=true)
    (hstep:∀ i o,ops[i]?=some o→∀ aa:Act,(∀ e ∈ o.after,Region.binds md e=true→aa.tmps[ds.getD e.on 0]?=some (valsAt vals e.on))→(∀ t,t ∉ ds→aa.tmps[t]?=a.tmps[t]?)→∀ w',J w'→wpOp P ops Q i (fun a' w2=>a'=aa.put (some (ds.getD i 0)) (valsAt vals i)∧J w2) aa w')
    (hend:∀ w',J w'→Q .normal (putF ds (valsAt vals) 0 a) w') (hJ:J w):wpAny P md ops Q ops.size (Array.replicate ops.size false) a w:=by
 have hsz2:∀ j (hj:j<ds.length),ds[j]<a.tmps.size:=fun j hj=>by
  have:=List.all_eq_true.1 hsz _ (List.getElem_mem hj)
  simpa using this
 have hgd:∀ j (hj:j<ds.length),ds.getD j 0=ds[j]:=fun j hj=>by rw [List.getD_eq_getElem?_getD,List.getElem?_eq_getElem hj,Option.getD_some]
 refine wpAny_iv (fun l a' w'=>l.size=ops.size∧((∀ j,l.getD j false=true→a'.tmps[ds.getD j 0]?=some (valsAt vals j))∧(∀ t,t ∉ ds→a'.tmps[t]?=a.tmps[t]?)∧a'.tmps.size=a.tmps.size∧a'.defers=a.defers)∧J w') ?_ ?_ _ _ _ _ ?_ ?_
 · rintro l a' w' ⟨hl,⟨hv,ho',hs,hd⟩,hJ⟩ i o ho h0 hall
   have hi:i<ds.length:=by
    have:=(Array.getElem?_eq_some_iff.1 ho).1
    omega
   refine wpOp_mono ?_ (hstep i o ho a' (fun e he hb=>hv _ (hall e he hb)) ho' w' hJ)
   rintro a2 w2 ⟨rfl,hJ2⟩
   refine ⟨by simp [hl],⟨fun j hj=>?_,fun t ht=>?_,by rw [put_size];exact hs,hd⟩,hJ2⟩
   · rw [put_get,hgd i hi]
     by_cases h:j=i
     · subst h
       rw [hgd j hi,if_pos rfl,if_pos (by rw [hs];exact hsz2 j hi)]
     · rw [getD_set_ne false (fun e=>h e.symm)] at hj
       have hjl:j<ds.length:=by
        rcases Nat.lt_or_ge j l.size with h' | h'
        · omega
        · rw [Array.getD_eq_getD_getElem?,Array.getElem?_eq_none h'] at hj
          cases hj
       rw [hgd j hjl,if_neg (fun (e:ds[i]=ds[j])=>h ((List.getElem_inj hnd).1 e).symm)]
       rw [← hgd j hjl]
       exact hv j hj
   · rw [put_get,hgd i hi,if_neg (fun (e:ds[i]=t)=>ht (e ▸ List.getElem_mem hi))]
     exact ho' t ht
 · rintro l a' w' ⟨hl,⟨hv,ho',hs,hd⟩,hJ⟩ hr
   have hu:=all_up hord l hr hl
   have e:a'=putF ds (valsAt vals) 0 a:=by
    have e1:a'.tmps=(putF ds (valsAt vals) 0 a).tmps:=by
     apply Array.ext_getElem?
     intro t
     by_cases ht:t ∈ ds
     · obtain ⟨j,hj,rfl⟩:=List.mem_iff_getElem.1 ht
       rw [putF_at ds _ 0 a j hj hnd (hsz2 j hj),Nat.zero_add,← hgd j hj]
       exact hv j (hu j (by omega))
     · rw [putF_other ds _ 0 a t ht]
       exact ho' t ht
    have e2:a'.defers=(putF ds (valsAt vals) 0 a).defers:=by rw [putF_defers];exact hd
    cases a'
    cases hq:putF ds (valsAt vals) 0 a
    rw [hq] at e1 e2
    simp only at e1 e2
    rw [e1,e2]
   rw [e]
   exact hend w' hJ
 · simp
 · refine ⟨by simp,⟨fun j hj=>?_,fun _ _=>rfl,rfl,rfl⟩,hJ⟩
   rw [Array.getD_eq_getD_getElem?,Array.getElem?_replicate] at hj
   split at hj<;>cases hj
end Go.Proofs.YtmohmggnjldddaaGreatDoor
