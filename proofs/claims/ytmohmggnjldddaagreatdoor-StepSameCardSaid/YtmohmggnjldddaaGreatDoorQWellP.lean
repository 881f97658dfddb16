/-
  Plain: declarations that are gone through, and what a map of them tells of a name.
-/
import Derived.Test.YtmohmggnjldddaaGreatDoorQWellU
import Derived.Test.YtmohmggnjldddaaGreatDoorQFault
import Derived.Test.YtmohmggnjldddaaGreatDoorQUsesC
import Derived.Test.YtmohmggnjldddaaGreatDoorShelf
import Derived.Maps.OwnSet
import Derived.Maps.Views
import Derived.Maps.OwnOps
namespace Go.Proofs.YtmohmggnjldddaaGreatDoor
open Go Go.RowKit
def Sts (w0:World):List Nd→List Value→Prop
 | [],cs=>cs=[]
 | x :: r,cs=>∃ u0 u1 u2 u3 u4 u5 rest,cs=u0 :: u1 :: u2 :: u3 :: u4 :: u5 :: rest∧x.ty=.S∧NdIn w0 x [u0,u1,u2,u3,u4,u5]∧Sts w0 r rest
theorem Sts.app {w0:World}:∀ {a b:List Nd} {xs ys:List Value},Sts w0 a xs→Sts w0 b ys→Sts w0 (a ++ b) (xs ++ ys)
 | [],b,xs,ys,h,k=>by unfold Sts at h;subst h;exact k
 | x :: r,b,xs,ys,h,k=>by
   unfold Sts at h
   obtain ⟨u0,u1,u2,u3,u4,u5,rest,rfl,h1,h2,h3⟩:=h
   rw [List.cons_append,Sts]
   exact ⟨u0,u1,u2,u3,u4,u5,rest ++ ys,rfl,h1,h2,h3.app k⟩
theorem Sts.at {w0:World}:∀ {a:List Nd} {xs:List Value} (_:Sts w0 a xs) (i:Nat) (hi:i < a.length),∃ u0 u1 u2 u3 u4 u5,(a[i]).ty=.S∧NdIn w0 a[i] [u0,u1,u2,u3,u4,u5]∧xs[i * 6]?=some u0∧xs[i * 6+1]?=some u1∧xs[i * 6+2]?=some u2∧xs[i * 6+3]?=some u3∧xs[i * 6+4]?=some u4∧xs[i * 6+5]?=some u5
 | [],xs,h,i,hi=>by simp at hi
 | x :: r,xs,h,0,hi=>by
   unfold Sts at h
   obtain ⟨u0,u1,u2,u3,u4,u5,rest,rfl,h1,h2,h3⟩:=h
   exact ⟨u0,u1,u2,u3,u4,u5,h1,h2,rfl,rfl,rfl,rfl,rfl,rfl⟩
 | x :: r,xs,h,i+1,hi=>by
   unfold Sts at h
   obtain ⟨u0,u1,u2,u3,u4,u5,rest,rfl,h1,h2,h3⟩:=h
   obtain ⟨z0,z1,z2,z3,z4,z5,g1,g2,e0,e1,e2,e3,e4,e5⟩:=h3.at i (by simpa using hi)
   refine ⟨z0,z1,z2,z3,z4,z5,g1,g2,?_⟩
   simp only [show (i+1) * 6=i * 6+5+1 by omega,List.getElem?_cons_succ]
   exact ⟨e0,e1,e2,e3,e4,e5⟩
mutual
def flatN:Nd→List Nd
 | .mk ty k n nm xs cs ts es=>.mk ty k n nm xs cs ts es :: (flatL ts ++ flatL es)
def flatL:List Nd→List Nd
 | []=>[]
 | x :: r=>flatN x ++ flatL r
end
theorem flatL_app:∀ (l m:List Nd),flatL (l ++ m)=flatL l ++ flatL m
 | [],m=>by simp [flatL]
 | x :: r,m=>by rw [List.cons_append,flatL,flatL,flatL_app r m,List.append_assoc]
theorem flatL_take {l:List Nd} {i:Nat} (hi:i < l.length):flatL (l.take (i+1))=flatL (l.take i) ++ flatN l[i]:=by
 rw [← List.take_append_getElem hi,flatL_app]
 simp [flatL]
theorem flatL_take_le {l:List Nd} (i:Nat):(flatL (l.take i)).length≤(flatL l).length:=by
 conv=>rhs;rw [← List.take_append_drop i l,flatL_app]
 simp
theorem flatL_at_le {l:List Nd} {i:Nat} (hi:i < l.length):(flatL (l.take i)).length+(flatN l[i]).length≤(flatL l).length:=by
 have h:=flatL_take_le (l:=l) (i+1)
 rw [flatL_take hi,List.length_append] at h
 exact h
mutual
theorem flat_N (w:World):∀ (x:Nd) (vs:List Value),NdIn w x vs→x.ty=.S→usesN x=(flatN x).flatMap ownU
 | .mk ty k n nm xs cs ts es,vs,h,hty=>by
   simp only [Nd.ty] at hty
   subst hty
   unfold NdIn at h
   obtain ⟨_,_,_,_,vx,vc,vt,ve,_,_,_,ht,he⟩:=h
   have h3:usesL ts=(flatL ts).flatMap ownU:=by
    obtain ⟨a,c,_,_,_,h0 | ⟨b,o,_,hr⟩⟩:=ht
    · obtain rfl:=List.eq_nil_of_length_eq_zero h0;simp [usesL,flatL]
    · exact flat_L w ts b o hr
   have h4:usesL es=(flatL es).flatMap ownU:=by
    obtain ⟨a,c,_,_,_,h0 | ⟨b,o,_,hr⟩⟩:=he
    · obtain rfl:=List.eq_nil_of_length_eq_zero h0;simp [usesL,flatL]
    · exact flat_L w es b o hr
   unfold usesN flatN
   rw [List.flatMap_cons,List.flatMap_append,← h3,← h4]
   simp only [ownU,List.append_assoc]
theorem flat_L (w:World):∀ (l:List Nd) (b o:Nat),RowIn w .S l b o→usesL l=(flatL l).flatMap ownU
 | [],_,_,_=>by simp [usesL,flatL]
 | x :: r,b,o,h=>by
   unfold RowIn at h
   obtain ⟨⟨h1,vs,_,h2⟩,h3⟩:=h
   rw [usesL,flatL,List.flatMap_append,flat_N w x vs h2 h1,flat_L w r _ _ h3]
end
theorem flat_sl {w:World} {l:List Nd} {v:Value} (h:SlIn w .S l v):usesL l=(flatL l).flatMap ownU:=by
 obtain ⟨a,c,_,_,_,h0 | ⟨b,o,_,hr⟩⟩:=h
 · obtain rfl:=List.eq_nil_of_length_eq_zero h0;simp [usesL,flatL]
 · exact flat_L w l b o hr
theorem info_wstmt:(Tryz.prog.info? 57).map (fun i=>(i.zero,i.size,i.bytes))=some (some (.agg #[.int .i64 0,.string ⟨#[]⟩,.slice none 0 0,.slice none 0 0,.slice none 0 0,.slice none 0 0]),6,120):=by kernel_rfl
theorem stmt_one (k:Int) (nm:ByteArray) (a b c d:Option Addr) (n1 n2 n3 n4 c1 c2 c3 c4:Nat):∀ u ∈ ([.int .i64 k,.string nm,.slice a n1 c1,.slice b n2 c2,.slice c n3 c3,.slice d n4 c4]:List Value),u.oneCell'=true:=by
 intro u hu
 simp at hu
 rcases hu with rfl | rfl | rfl | rfl | rfl | rfl <;> rfl
theorem news_stmt (w:World) (u0 u1 u2 u3 u4 u5:Value) (c:Nat) (hc:w.heap.size=c):∀ j u,([u0,u1,u2,u3,u4,u5]:List Value)[j]?=some u→(w.alloc (.cells #[u0,u1,u2,u3,u4,u5] 57)).cell? ((⟨c,0,none⟩:Addr).add j)=some u:=by
 rw [← hc]
 exact World.news_of_block (cs:=#[u0,u1,u2,u3,u4,u5]) (t:=57) (fr:=(0,0)) (heap_alloc_new w _)
def StTo (w0 w:World) (base:Nat) (v:Value) (L:List Nd):Ending→World→Prop:=fun e w'=>∃ v' CS',e=.returned v'∧w'.ownsRow base 57 6 v' L.length CS'∧Sts w0 L CS'∧Gr v.ownBlock v'.ownBlock w w'
set_option maxRecDepth 100000 in
set_option maxHeartbeats 16000000 in
theorem wstmts_any (w0:World) (base:Nat) (hB0:w0.heap.size≤base):∀ (N:Nat) (l:List Nd) (vl:Value) (L:List Nd) (CS:List Value) (v:Value) (w:World),SizeOf.sizeOf l≤N→SlIn w0 .S l vl→Below w0.heap.size w0 w→base≤w.heap.size→w.ownsRow base 57 6 v L.length CS→Sts w0 L CS→L.length+(flatL l).length≤1099511627776 →
    Calls Tryz.prog 104 #[v,vl] w (StTo w0 w base v (L ++ flatL l)):=by
 intro N
 induction N with
 | zero =>
   intro l vl L CS v w hN
   cases l <;> simp at hN
 | succ N ih =>
   intro l vl L CS v w hN hl hw hbw hown hsts hlen
   obtain ⟨A,C,rfl,hlC,hcmC,hROW⟩:=hl
   have HROW:=Lib.hid hROW;clear hROW
   have HIH:=Lib.hid ih;clear ih
   obtain ⟨i0,hi0,hz0,hz1,hz2⟩:=info_parts info_wstmt
   have HI0:=Lib.hid hi0;clear hi0
   have HZ0:=Lib.hid hz0;clear hz0
   have HZ1:=Lib.hid hz1;clear hz1
   have HZ2:=Lib.hid hz2;clear hz2
   obtain ⟨POST,hPOST⟩:∃ l',L ++ flatL l=l':=⟨_,rfl⟩
   rw [hPOST]
   have HPOST:=Lib.hid hPOST;clear hPOST
   have HOR0:=Lib.hid (fun g hg=>(hown.lt g hg).1)
   have HO0:=Lib.hid hown;clear hown
   have HS0:=Lib.hid hsts;clear hsts
   have HHW:=Lib.hid hw;clear hw
   go_enter Tryz.func104,Tryz.ntmps104
   go_wp2_with fail
   go_loopw [0,9] (fun y x wr=>∃ (vo:Value) (ii:Nat) (CO:List Value),vo=y∧x=.int .i64 ii∧ii≤l.length∧wr.ownsRow base 57 6 vo (L ++ flatL (l.take ii)).length CO∧Sts w0 (L ++ flatL (l.take ii)) CO∧Gr v.ownBlock vo.ownBlock w wr) (fun _ x _=>l.length - (intOf x).toNat)
   case atStart=>exact ⟨v,0,CS,rfl,rfl,by omega,by rw [List.take_zero,flatL,List.append_nil];exact HO0.out,by rw [List.take_zero,flatL,List.append_nil];exact HS0.out,Gr.refl _ _⟩
   case round =>
    obtain ⟨vo,ii,CO,rfl,rfl,hii,hOo,hSo,hGo⟩:=hrel
    have HOO:=Lib.hid hOo;clear hOo
    have HGO:=Lib.hid hGo;clear hGo
    by_cases hlt:ii < l.length
    · have hbii:(ii:Int)+1≤9223372036854775807:=by unfold maxLen at hcmC;omega
      have hxl0:¬ l.length=0:=by omega
      obtain ⟨b0,o0,rfl,hrow⟩:=HROW.out.resolve_left hxl0
      have hold0:Below w0.heap.size w0 wr:=HHW.out.trans (HGO.out.old HHW.out.size (fun g hg=>Nat.le_trans hB0 (HOR0.out g hg)))
      obtain ⟨hty,u0,u1,u2,u3,u4,u5,m0,m1,m2,m3,m4,m5,hnd⟩:=SlIn.item6 rfl hrow ii hlt
      have hsz0:=List.sizeOf_lt_of_mem (List.getElem_mem hlt)
      have kk:=keeps_below hold0
      have g0:=kk _ _ _ m0
      have g1:=kk _ _ _ m1
      have g2:=kk _ _ _ m2
      have g3:=kk _ _ _ m3
      have g4:=kk _ _ _ m4
      have g5:=kk _ _ _ m5
      have hle0:=flatL_at_le hlt
      have htk0:=flatL_take hlt
      clear m0 m1 m2 m3 m4 m5 kk hrow
      obtain ⟨X,hX⟩:∃ X,l[ii]=X:=⟨_,rfl⟩
      rw [hX] at hnd hty htk0 hle0 hsz0
      clear hX
      obtain ⟨ty,k,n,nm,xs,cs,ts,es⟩:=X
      simp only [Nd.ty] at hty
      subst hty
      have hND:=Lib.hid hnd
      unfold NdIn at hnd
      obtain ⟨hz,-,-,-,vx,vc,vt,ve,hvs,hxs,hcs,hts,hes⟩:=hnd
      simp only [fits] at hz
      subst hz
      simp only [lay,List.cons.injEq,and_true] at hvs
      obtain ⟨rfl,rfl,rfl,rfl,rfl,rfl⟩:=hvs
      have hu:flatN (.mk .S k 0 nm xs cs ts es)=[.mk .S k 0 nm xs cs ts es] ++ (flatL ts ++ flatL es):=by rw [flatN];rfl
      rw [hu] at htk0 hle0
      clear hu
      simp only [Nd.mk.sizeOf_spec] at hsz0
      simp only [List.length_append,List.length_cons,List.length_nil] at hle0
      have HT:=Lib.hid (fun L C v w=>HIH.out ts _ L C v w (by omega) hts)
      have HE:=Lib.hid (fun L C v w=>HIH.out es _ L C v w (by omega) hes)
      obtain ⟨a1,c1,rfl,-⟩:=hcs
      obtain ⟨a2,c2,rfl,-⟩:=hxs
      obtain ⟨a3,c3,rfl,-⟩:=hts
      obtain ⟨a4,c4,rfl,-⟩:=hes
      obtain ⟨X,hX⟩:∃ X,Nd.mk .S k 0 nm xs cs ts es=X:=⟨_,rfl⟩
      rw [hX] at hND htk0
      have hXS:X.ty=.S:=by rw [← hX];rfl
      clear hX
      obtain ⟨LB,hLB⟩:∃ x,L ++ flatL (l.take ii)=x:=⟨_,rfl⟩
      have hOo:=HOO.out;clear HOO
      rw [hLB] at hOo hSo
      obtain ⟨FIN,hFN⟩:∃ x,L ++ flatL (l.take (ii+1))=x:=⟨_,rfl⟩
      have hlenLB:=congrArg List.length hLB
      simp only [List.length_append] at hlenLB
      have HFN:=Lib.hid hFN
      have hfin:LB ++ ([X] ++ (flatL ts ++ flatL es))=FIN:=by rw [← hLB,← hFN,htk0,List.append_assoc]
      rw [← List.append_assoc,← List.append_assoc] at hfin
      have HFIN:=Lib.hid hfin;clear hfin htk0 hLB hsz0 hFN
      have hor:∀ g,vo.ownBlock=some g→base≤g∧g < wr.heap.size:=hOo.lt
      obtain ⟨W1,hW1⟩:∃ W1,wr.alloc (.cells #[.int .i64 k,.string nm,.slice a2 xs.length c2,.slice a1 cs.length c1,.slice a3 ts.length c3,.slice a4 es.length c4] 57)=W1:=⟨_,rfl⟩
      obtain ⟨B,hBe⟩:∃ B,wr.heap.size=B:=⟨_,rfl⟩
      have hX1:Blk W1 B #[.int .i64 k,.string nm,.slice a2 xs.length c2,.slice a1 cs.length c1,.slice a3 ts.length c3,.slice a4 es.length c4] 57:=by rw [← hW1,← hBe];exact Blk.new wr _ _
      have hO1:W1.ownsRow base 57 6 vo LB.length CO:=by rw [← hW1];exact hOo.alloc _
      have hG1:Gr vo.ownBlock vo.ownBlock wr W1:=by rw [← hW1];exact (Gr.refl _ wr).alloc _
      have hS1:W1.heap.size=B+1:=by rw [← hW1,← hBe,World.size_alloc]
      have hbw2:base≤B:=by have:=HGO.out.size;omega
      rw [hBe] at hor
      have hvB:vo.ownBlock ≠ some B:=fun e=>by have:=(hor B e).2;omega
      have HX1:=Lib.hid hX1;clear hX1
      have HO1:=Lib.hid hO1;clear hO1 hOo
      have HG1:=Lib.hid hG1;clear hG1
      have HS1:=Lib.hid hS1;clear hS1
      have HW1:=Lib.hid hW1;clear hW1
      have HBE:=Lib.hid hBe;clear hBe
      have HOR:=Lib.hid (fun g hg=>(hor g hg).1);clear hor
      have HWB:=Lib.hid (hold0.trans (HG1.out.old hold0.size (fun g hg=>Nat.le_trans hB0 (HOR.out g hg))));clear hold0
      go_upto_region 4 with fail
      rw [HW1.out,HBE.out]
      clear HW1 g0 g1 g2 g3 g4 g5
      have k0:W1.cell? ⟨B,0,none⟩=some (.int .i64 k):=HX1.out.cell 0
      have k1:W1.cell? ⟨B,1,none⟩=some (.string nm):=HX1.out.cell 1
      have k2:W1.cell? ⟨B,2,none⟩=some (.slice a2 xs.length c2):=HX1.out.cell 2
      have k3:W1.cell? ⟨B,3,none⟩=some (.slice a1 cs.length c1):=HX1.out.cell 3
      have k4:W1.cell? ⟨B,4,none⟩=some (.slice a3 ts.length c3):=HX1.out.cell 4
      have k5:W1.cell? ⟨B,5,none⟩=some (.slice a4 es.length c4):=HX1.out.cell 5
      have HNW:=Lib.hid (news_stmt W1 (.int .i64 k) (.string nm) (.slice a2 xs.length c2) (.slice a1 cs.length c1) (.slice a3 ts.length c3) (.slice a4 es.length c4) (B+1) HS1.out)
      have hSZ:base≤(W1.alloc (.cells #[.int .i64 k,.string nm,.slice a2 xs.length c2,.slice a1 cs.length c1,.slice a3 ts.length c3,.slice a4 es.length c4] 57)).heap.size:=by rw [World.size_alloc,HS1.out];omega
      have HSZ:=Lib.hid hSZ;clear hSZ
      have HSO:=Lib.hid hSo;clear hSo
      have hl1:LB.length+1≤maxLen:=by unfold maxLen;omega
      have hs1:W1.heap.size=B+1:=HS1.out
      go_upto_region 5 with (first | (at_builtin;(with_reducible refine wpList_append_lies _ rfl (.tmp 13) (.tmp 15) 23 rfl base 57 i0 _ 6 120 Tryz.underlying23 HI0.out HZ0.out HZ1.out HZ2.out rfl (by omega) vo LB.length CO rfl (HO1.out.alloc _) ⟨_,0,none⟩ 1 1 [.int .i64 k,.string nm,.slice a2 xs.length c2,.slice a1 cs.length c1,.slice a3 ts.length c3,.slice a4 es.length c4] rfl rfl HNW.out (stmt_one _ _ _ _ _ _ _ _ _ _ _ _ _ _) (by omega) hl1 (by omega) HSZ.out _ rfl ?_);(intro gg cap w2 hown4 hgrow hat hlt2)) | fail)
      clear k0 k1 k2 k3 k4 k5 HNW HSZ hs1
      obtain ⟨v1,hv1⟩:∃ v,Value.slice (some ⟨gg,0,none⟩) (LB.length+1) cap=v:=⟨_,rfl⟩
      have hG2:Gr vo.ownBlock v1.ownBlock W1 w2:=by rw [← hv1];exact gr_grown ((Gr.refl _ W1).alloc _) hgrow (own_new hat)
      have hX2:Blk w2 B #[.int .i64 k,.string nm,.slice a2 xs.length c2,.slice a1 cs.length c1,.slice a3 ts.length c3,.slice a4 es.length c4] 57:=blk_grown (HX1.out.alloc _) hgrow hvB
      have hS2:Sts w0 (LB ++ [X]) (CO ++ [.int .i64 k,.string nm,.slice a2 xs.length c2,.slice a1 cs.length c1,.slice a3 ts.length c3,.slice a4 es.length c4]):=HSO.out.app ⟨_,_,_,_,_,_,[],rfl,hXS,hND.out,rfl⟩
      rw [hv1] at hown4
      rw [show LB.length+1=(LB ++ [X]).length by simp] at hown4
      have hold:Below w0.heap.size w0 w2:=HWB.out.trans (hG2.old HWB.out.size (fun g hg=>Nat.le_trans hB0 (HOR.out g hg)))
      have hsz:base≤w2.heap.size:=by have:=hG2.size;have:=HS1.out;omega
      have HC:=Lib.hid (HT.out _ _ v1 w2 hold hsz hown4 hS2 (by simp only [List.length_append,List.length_cons,List.length_nil];omega))
      have hvr:v1.ownBlock ≠ some B:=fun e=>by
       rcases hG2.2 with h | h
       · exact hvB (h.symm.trans e)
       · have:=h B e;have:=HS1.out;omega
      have k4:w2.cell? ⟨B,4,none⟩=some (.slice a3 ts.length c3):=hX2.cell 4
      have HX2:=Lib.hid hX2;clear hX2
      have HG2:=Lib.hid hG2;clear hG2
      rw [hv1]
      clear hown4 hS2 hold hsz hgrow hat hlt2 hv1
      go_wp2_with fail
      refine HC.out.mono ?_
      rintro e w3 ⟨v2,C2,rfl,hO3,hS3,hG3⟩
      have hX3:=HX2.out.gr hG3 hvr
      have hG4:=HG2.out.trans hG3
      have j5:w3.cell? ⟨B,5,none⟩=some (.slice a4 es.length c4):=hX3.cell 5
      have hold:Below w0.heap.size w0 w3:=HWB.out.trans (hG4.old HWB.out.size (fun g hg=>Nat.le_trans hB0 (HOR.out g hg)))
      have hsz:base≤w3.heap.size:=by have:=hG4.size;have:=HS1.out;omega
      have HC2:=Lib.hid (HE.out _ _ v2 w3 hold hsz hO3 hS3 (by simp only [List.length_append,List.length_cons,List.length_nil];omega))
      rw [HFIN.out] at HC2
      clear hold hsz hO3 hX3 hG3 hS3 k4 HC HX2
      have HG4:=Lib.hid hG4;clear hG4
      go_wp2_with fail
      refine HC2.out.mono ?_
      rintro e w4 ⟨v3,C3,rfl,hO5,hS5,hG5⟩
      rw [← HFN.out] at hO5 hS5
      have HO5:=Lib.hid hO5;clear hO5
      have HS5:=Lib.hid hS5;clear hS5
      have HG5:=Lib.hid (HGO.out.trans (HG1.out.trans (HG4.out.trans hG5)));clear hG5
      go_wp2_with fail
      go_roundw
      case rel=>exact ⟨v3,ii+1,C3,rfl,by go_num,by omega,HO5.out,HS5.out,HG5.out⟩
      case measure=>simp [intOf];omega
    · obtain rfl:ii=l.length:=by omega
      have h0:=HOO.out
      rw [List.take_length,HPOST.out] at h0 hSo
      have HO3:=Lib.hid h0;clear h0
      have HSO:=Lib.hid hSo;clear hSo
      go_wp2_with fail
      go_ret
      exact ⟨vo,CO,rfl,HO3.out,HSO.out,HGO.out⟩
def cellsT (l:List ByteArray):List Value:=l.map Value.string
theorem own_str {w:World} {base:Nat} {v:Value} {l:List ByteArray} (h:w.ownsRow base 9 1 v l.length (cellsT l)):∃ a c,v=.slice a l.length c∧l.length≤c∧(l.length=0 ∨ ∃ g,a=some ⟨g,0,none⟩∧∀ i (hi:i < l.length),w.cell? ⟨g,i,none⟩=some (.string l[i])):=by
 by_cases h0:l.length=0
 · rcases h.2 with ⟨rfl,_⟩ | ⟨g,cap,cur,rfl,_,_,hn,_⟩
   · exact ⟨none,0,by rw [h0],by omega,.inl h0⟩
   · exact ⟨_,cap,rfl,hn,.inl h0⟩
 · have hc:=fun g hg=>h.cells (g:=g) hg
   rcases h.2 with ⟨_,h1⟩ | ⟨g,cap,cur,rfl,_,_,hn,_⟩
   · exact absurd h1 h0
   · refine ⟨_,cap,rfl,hn,.inr ⟨g,rfl,fun i hi=>?_⟩⟩
     have:=hc g rfl i (.string l[i]) (by simp [cellsT,hi])
     rwa [add_none,Nat.zero_add] at this
theorem news_str (w:World) (s:ByteArray) (c:Nat) (hc:w.heap.size=c):∀ j u,([.string s]:List Value)[j]?=some u→(w.alloc (.cells #[.string s] 9)).cell? ((⟨c,0,none⟩:Addr).add j)=some u:=by
 rw [← hc]
 exact World.news_of_block (cs:=#[.string s]) (t:=9) (fr:=(0,0)) (heap_alloc_new w _)
theorem str_one (s:ByteArray):∀ u ∈ ([.string s]:List Value),u.oneCell'=true:=by
 intro u hu
 simp at hu
 subst hu
 rfl
open Go Go.RowKit Go.Maps
def nmsOf (l:List Nd):List ByteArray:=(l.filter mustN).map ownNm
theorem nmsOf_app (l m:List Nd):nmsOf (l ++ m)=nmsOf l ++ nmsOf m:=by simp [nmsOf]
def keyS (s:ByteArray):Lit:=.string s.data.toList
theorem nameB_size {s:ByteArray} (h:nameB s=true):s.size≤128:=by
 unfold nameB at h
 split at h
 · rename_i N hN
   have h2:=nmG_size s s.size 0 0 N (by omega) hN (Nat.zero_le _)
   simp at h
   omega
 · cases h
theorem fault_names {t:Tr} (h:faultT t=0):∀ x ∈ t.l,mustN x=true→(ownNm x).size≤128:=by
 unfold faultT at h
 split at h
 · omega
 · split at h
   · omega
   · split at h
     · omega
     · rename_i hn
       intro x hx hm
       refine nameB_size ?_
       cases hb:nameB (ownNm x) with
       | true=>rfl
       | false =>
         exact absurd (List.any_eq_true.2 ⟨x,hx,by unfold namelessB;rw [hm,hb];rfl⟩) hn
theorem law9:Keyed Tryz.prog 9:=string_keyed (by kernel_rfl)
theorem clone_any (s:ByteArray) (w:World) (hs:s.size≤65536):Calls Tryz.prog 36 #[.string s] w fun e w'=>e=.returned (.string s)∧Below w.heap.size w w':=by
 go_enter Tryz.func36,Tryz.ntmps36
 go_wp2_with (go_at_call 55;refine (Tryz.stringslite_Clone _ _ (by omega)).mono ?_;rintro e w' ⟨rfl,hb⟩)
 go_ret
 exact ⟨rfl,hb⟩
theorem grown_below {w w':World} (hb:Below w.heap.size w w'):w.grownBy w' none:=⟨hb.os,hb.tape,hb.output,hb.size,fun k hk _=>hb.block k hk⟩
theorem below_grown {B:Nat} {a w w':World} {row:Option Nat} (h:Below B a w) (hB:B≤w.heap.size) (hg:w.grownBy w' row) (hr:∀ r,row=some r→B≤r):Below B a w' :=
 h.trans ⟨hg.os,hg.tape,hg.output,hg.size,fun k hk=>hg.block k (by omega) (fun e=>by have:=hr k e.symm;omega)⟩
def dNm:Nd→ByteArray | .mk _ _ _ nm _ _ _ _=>nm
def dSz:Nd→Int | .mk _ _ n _ _ _ _ _=>n
def kD (n:Int):Int:=if n=0 then 1 else 2
def lookL (l:List Nd) (s:ByteArray):Int:=l.foldl (fun k x=>if (dNm x).toList == s.toList then kD (dSz x) else k) 0
theorem lookL_snoc (l:List Nd) (x:Nd) (s:ByteArray):lookL (l ++ [x]) s=if (dNm x).toList == s.toList then kD (dSz x) else lookL l s:=by unfold lookL;rw [List.foldl_append];rfl
def cntK (l:List Nd) (k:Int):Nat:=(l.filter (fun x=>kD (dSz x) == k)).length
theorem cntK_snoc (l:List Nd) (x:Nd) (k:Int):cntK (l ++ [x]) k=cntK l k+if kD (dSz x) == k then 1 else 0:=by
 unfold cntK
 rw [List.filter_append,List.length_append]
 congr 1
 by_cases h:(kD (dSz x) == k)=true
 · simp [h]
 · simp [h]
theorem cntK_le (l:List Nd) (k:Int):cntK l k≤l.length:=List.length_filter_le _ _
def mostK (k:Int):Int:=if k=1 then 32 else 16
def dF (l:List Nd) (x:Nd):Int:=if lookL l (dNm x) ≠ 0 then 60 else if 1024 < dSz x then 61 else if mostK (kD (dSz x)) < (cntK l (kD (dSz x)):Int)+1 then 62 else 0
def declW:List Nd→List Nd→ByteArray × Int
 | _,[]=>(⟨#[]⟩,0)
 | p,x :: r=>if dF p x ≠ 0 then (dNm x,dF p x) else declW (p ++ [x]) r
theorem declW_at {l:List Nd} {i:Nat} (hi:i < l.length):declW (l.take i) (l.drop i)=if dF (l.take i) l[i] ≠ 0 then (dNm l[i],dF (l.take i) l[i]) else declW (l.take (i+1)) (l.drop (i+1)):=by
 rw [List.drop_eq_getElem_cons hi,declW,List.take_append_getElem hi]
theorem pick_60 {c n m k:Int} {nm:ByteArray} {r:ByteArray × Int} (h:c ≠ 0):(if (if c ≠ 0 then (60:Int) else if 1024 < n then 61 else if m < k then 62 else 0) ≠ 0 then (nm,(if c ≠ 0 then (60:Int) else if 1024 < n then 61 else if m < k then 62 else 0)) else r)=(nm,60):=by simp [h]
theorem pick_61 {n m k:Int} {nm:ByteArray} {r:ByteArray × Int} (h:1024 < n):(if (if (0:Int) ≠ 0 then (60:Int) else if 1024 < n then 61 else if m < k then 62 else 0) ≠ 0 then (nm,(if (0:Int) ≠ 0 then (60:Int) else if 1024 < n then 61 else if m < k then 62 else 0)) else r)=(nm,61):=by simp [h]
theorem pick_62 {n m k:Int} {nm:ByteArray} {r:ByteArray × Int} (h1:¬ 1024 < n) (h:m < k):(if (if (0:Int) ≠ 0 then (60:Int) else if 1024 < n then 61 else if m < k then 62 else 0) ≠ 0 then (nm,(if (0:Int) ≠ 0 then (60:Int) else if 1024 < n then 61 else if m < k then 62 else 0)) else r)=(nm,62):=by simp [h1,h]
theorem pick_0 {n m k:Int} {nm:ByteArray} {r:ByteArray × Int} (h1:¬ 1024 < n) (h:¬ m < k):(if (if (0:Int) ≠ 0 then (60:Int) else if 1024 < n then 61 else if m < k then 62 else 0) ≠ 0 then (nm,(if (0:Int) ≠ 0 then (60:Int) else if 1024 < n then 61 else if m < k then 62 else 0)) else r)=r:=by simp [h1,h]
def mapD (l:List Nd):DataW Unit:=l.foldl (fun D x=>D.put (keyS (dNm x)) (.lit (.int .i64 (kD (dSz x))))) (.map [])
theorem mapD_snoc (l:List Nd) (x:Nd):mapD (l ++ [x])=(mapD l).put (keyS (dNm x)) (.lit (.int .i64 (kD (dSz x)))):=by unfold mapD;rw [List.foldl_append];rfl
theorem isMap_put {D:DataW Unit} (h:IsMap D) (k:Lit) (d:DataW Unit):IsMap (D.put k d):=by
 obtain ⟨es,rfl⟩:=h
 exact ⟨_,rfl⟩
theorem isMap_foldl:∀ (l:List Nd) (D:DataW Unit),IsMap D→IsMap (l.foldl (fun D x=>D.put (keyS (dNm x)) (.lit (.int .i64 (kD (dSz x))))) D)
 | [],_,h=>h
 | _ :: r,_,h=>isMap_foldl r _ (isMap_put h _ _)
theorem isMap_mapD (l:List Nd):IsMap (mapD l):=isMap_foldl l _ ⟨[],rfl⟩
theorem keyS_ne {a b:ByteArray} (h:¬ a.toList=b.toList):keyS b ≠ keyS a:=by
 intro e
 unfold keyS at e
 simp only [Lit.string.injEq] at e
 exact h (by rw [ByteArray.toList_eq,ByteArray.toList_eq];exact e.symm)
theorem keyS_eq {a b:ByteArray} (h:a.toList=b.toList):keyS a=keyS b:=by
 unfold keyS
 rw [ByteArray.toList_eq,ByteArray.toList_eq] at h
 rw [h]
theorem mapD_at_rev:∀ (l:List Nd) (s:ByteArray),(mapD l.reverse).atKey (keyS s) (.lit (.int .i64 0))=.lit (.int .i64 (lookL l.reverse s))
 | [],s=>rfl
 | x :: r,s=>by
   rw [List.reverse_cons,mapD_snoc,lookL_snoc]
   by_cases h:(dNm x).toList=s.toList
   · rw [if_pos (by simpa using h),keyS_eq h]
     exact atKey_put_same (isMap_mapD _) (show WideAt.IsKeyLit (keyS s) from True.intro) _ _
   · rw [if_neg (by simpa using h),atKey_put_other (keyS_ne h)]
     exact mapD_at_rev r s
theorem mapD_at (l:List Nd) (s:ByteArray):(mapD l).atKey (keyS s) (.lit (.int .i64 0))=.lit (.int .i64 (lookL l s)):=by
 have h:=mapD_at_rev l.reverse s
 rwa [List.reverse_reverse] at h
theorem wpList_lookup_at {P:Program} (w:World) {ops:Array Oper} {rest:List Oper} {o:Oper} {a:Act} {Q:Exit→Act→World→Prop}
    (hg:o.guard=none) (m x:Operand) (t:TypeId) (hop:o.op=Op.lookup t m x false)
    (k e:TypeId) (q:IntKind) (K:Keyed P k) (ht:P.underlying t=some (.map k e)) (he:P.underlying e=some (.int q)) (hz:(zeroValue e).run P w=.ok (.int q 0) w) (b n:Nat) (D:DataW Unit)
    (hm:a.eval m=.map (some b)) (hown:w.ownsMap P k (plainElem P e) b n D) (key:Value) (kl:Lit) (hx:a.eval x=key) (hkey:keyOf P k key=some kl) (c:Int) (hc:D.atKey kl (.lit (.int q 0))=.lit (.int q c))
    (hK:wpList P ops Q rest (a.put o.dst (.int q c)) w):wpList P ops Q (o :: rest) a w :=
 wpList_lookup_own_int w hg m x t hop k e q K ht he hz b n D hm hown key kl hx hkey (fun c' hat _=>by
  rw [hc] at hat
  simp only [DataW.lit.injEq,Lit.int.injEq,true_and] at hat
  subst hat
  exact hK)
theorem only_grown {B:Nat} {w w':World} (h:Only B w w'):w.grownBy w' (some B):=⟨h.os,h.tape,h.output,h.size,fun k hk hr=>h.block k hk (fun e=>hr (by rw [e]))⟩
theorem ownsMap_only {P:Program} {k:TypeId} {R:Value→Option (DataW Unit × List MemPlace)} {w w':World} {M n B:Nat} {D:DataW Unit} (h:w.ownsMap P k R M n D) (ho:Only B w w') (hne:M ≠ B):w'.ownsMap P k R M n D:=h.kept (only_grown ho) (fun e=>hne (by simpa using e))
theorem gr_only {r:Option Nat} {a w w':World} {B:Nat} (h:Gr r r a w) (ho:Only B w w') (hB:a.heap.size≤B):Gr r r a w' :=
 ⟨⟨ho.os.trans h.1.os,ho.tape.trans h.1.tape,ho.output.trans h.1.output,Nat.le_trans h.1.size ho.size,fun k hk hr=>(ho.block k (Nat.lt_of_lt_of_le hk h.1.size) (by omega)).trans (h.1.block k hk hr)⟩,.inl rfl⟩
theorem gr_drewN {r r':Option Nat} {a w:World} (h:Gr r r' a w) (n:Nat):Gr r r' a (w.drewN n):=⟨⟨h.1.os,h.1.tape,h.1.output,h.1.size,h.1.block⟩,h.2⟩
theorem ownM_drewN {P:Program} {k:TypeId} {R:Value→Option (DataW Unit × List MemPlace)} {w:World} {M n:Nat} {D:DataW Unit} (h:w.ownsMap P k R M n D) (m:Nat):(w.drewN m).ownsMap P k R M n D:=h
theorem kD_cases (n:Int):kD n=1 ∨ kD n=2:=by unfold kD;split <;> simp
theorem i64_small (k:Int) (h:k=1 ∨ k=2):(Lit.int .i64 k).wf=true:=by rcases h with rfl | rfl <;> decide
theorem zeroI (w:World):(zeroValue 3).run Tryz.prog w=.ok (.int .i64 0) w:=by kernel_rfl
theorem under_int:Tryz.prog.underlying 3=some (.int .i64):=by kernel_rfl
end Go.Proofs.YtmohmggnjldddaaGreatDoor
