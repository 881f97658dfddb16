/-
  The lowering's block: proved is that it lays the plain edges, if its statements do.
-/
import Derived.Test.YtmohmggnjldddaaGreatDoorQCfgKb
import Derived.Test.YtmohmggnjldddaaGreatDoorQAbb
namespace Go.Proofs.YtmohmggnjldddaaGreatDoor
set_option maxHeartbeats 8000000
set_option maxRecDepth 100000
open Go Go.RowKit Go.Maps
def wayF (k:Int):Nat:=if k=1 then 106 else if k=2 then 107 else if k=3 then 108 else if k=4 then 109 else if k=5 then 110 else if k=6 then 111 else 112
abbrev funV (F M:Nat):Value:=.func (.func F) #[.pointer (some ⟨M,0,none⟩)] #[]
theorem way_1 (M:Nat) (nm:ByteArray) (a1 a2 a3 a4:Option Addr) (l1 l2 l3 l4 c1 c2 c3 c4:Nat) (w:World) :
    Calls Tryz.prog 56 #[.pointer (some ⟨M,0,none⟩),.agg #[.int .i64 1,.string nm,.slice a1 l1 c1,.slice a2 l2 c2,.slice a3 l3 c3,.slice a4 l4 c4]] w (fun e w'=>e=.returned (funV 106 M)∧Below w.heap.size w w'):=by
 have hb:Below w.heap.size w (w.alloc (.cells #[.int .i64 1,.string nm,.slice a1 l1 c1,.slice a2 l2 c2,.slice a3 l3 c3,.slice a4 l4 c4] 57)):=(Below.refl _ w).alloc (Nat.le_refl _) _
 go_enter Tryz.func56,Tryz.ntmps56
 go_wp2_with fail
 go_ret
 exact ⟨rfl,hb⟩
theorem way_2 (M:Nat) (nm:ByteArray) (a1 a2 a3 a4:Option Addr) (l1 l2 l3 l4 c1 c2 c3 c4:Nat) (w:World) :
    Calls Tryz.prog 56 #[.pointer (some ⟨M,0,none⟩),.agg #[.int .i64 2,.string nm,.slice a1 l1 c1,.slice a2 l2 c2,.slice a3 l3 c3,.slice a4 l4 c4]] w (fun e w'=>e=.returned (funV 107 M)∧Below w.heap.size w w'):=by
 have hb:Below w.heap.size w (w.alloc (.cells #[.int .i64 2,.string nm,.slice a1 l1 c1,.slice a2 l2 c2,.slice a3 l3 c3,.slice a4 l4 c4] 57)):=(Below.refl _ w).alloc (Nat.le_refl _) _
 go_enter Tryz.func56,Tryz.ntmps56
 go_wp2_with fail
 go_ret
 exact ⟨rfl,hb⟩
theorem way_3 (M:Nat) (nm:ByteArray) (a1 a2 a3 a4:Option Addr) (l1 l2 l3 l4 c1 c2 c3 c4:Nat) (w:World) :
    Calls Tryz.prog 56 #[.pointer (some ⟨M,0,none⟩),.agg #[.int .i64 3,.string nm,.slice a1 l1 c1,.slice a2 l2 c2,.slice a3 l3 c3,.slice a4 l4 c4]] w (fun e w'=>e=.returned (funV 108 M)∧Below w.heap.size w w'):=by
 have hb:Below w.heap.size w (w.alloc (.cells #[.int .i64 3,.string nm,.slice a1 l1 c1,.slice a2 l2 c2,.slice a3 l3 c3,.slice a4 l4 c4] 57)):=(Below.refl _ w).alloc (Nat.le_refl _) _
 go_enter Tryz.func56,Tryz.ntmps56
 go_wp2_with fail
 go_ret
 exact ⟨rfl,hb⟩
theorem way_4 (M:Nat) (nm:ByteArray) (a1 a2 a3 a4:Option Addr) (l1 l2 l3 l4 c1 c2 c3 c4:Nat) (w:World) :
    Calls Tryz.prog 56 #[.pointer (some ⟨M,0,none⟩),.agg #[.int .i64 4,.string nm,.slice a1 l1 c1,.slice a2 l2 c2,.slice a3 l3 c3,.slice a4 l4 c4]] w (fun e w'=>e=.returned (funV 109 M)∧Below w.heap.size w w'):=by
 have hb:Below w.heap.size w (w.alloc (.cells #[.int .i64 4,.string nm,.slice a1 l1 c1,.slice a2 l2 c2,.slice a3 l3 c3,.slice a4 l4 c4] 57)):=(Below.refl _ w).alloc (Nat.le_refl _) _
 go_enter Tryz.func56,Tryz.ntmps56
 go_wp2_with fail
 go_ret
 exact ⟨rfl,hb⟩
theorem way_5 (M:Nat) (nm:ByteArray) (a1 a2 a3 a4:Option Addr) (l1 l2 l3 l4 c1 c2 c3 c4:Nat) (w:World) :
    Calls Tryz.prog 56 #[.pointer (some ⟨M,0,none⟩),.agg #[.int .i64 5,.string nm,.slice a1 l1 c1,.slice a2 l2 c2,.slice a3 l3 c3,.slice a4 l4 c4]] w (fun e w'=>e=.returned (funV 110 M)∧Below w.heap.size w w'):=by
 have hb:Below w.heap.size w (w.alloc (.cells #[.int .i64 5,.string nm,.slice a1 l1 c1,.slice a2 l2 c2,.slice a3 l3 c3,.slice a4 l4 c4] 57)):=(Below.refl _ w).alloc (Nat.le_refl _) _
 go_enter Tryz.func56,Tryz.ntmps56
 go_wp2_with fail
 go_ret
 exact ⟨rfl,hb⟩
theorem way_6 (M:Nat) (nm:ByteArray) (a1 a2 a3 a4:Option Addr) (l1 l2 l3 l4 c1 c2 c3 c4:Nat) (w:World) :
    Calls Tryz.prog 56 #[.pointer (some ⟨M,0,none⟩),.agg #[.int .i64 6,.string nm,.slice a1 l1 c1,.slice a2 l2 c2,.slice a3 l3 c3,.slice a4 l4 c4]] w (fun e w'=>e=.returned (funV 111 M)∧Below w.heap.size w w'):=by
 have hb:Below w.heap.size w (w.alloc (.cells #[.int .i64 6,.string nm,.slice a1 l1 c1,.slice a2 l2 c2,.slice a3 l3 c3,.slice a4 l4 c4] 57)):=(Below.refl _ w).alloc (Nat.le_refl _) _
 go_enter Tryz.func56,Tryz.ntmps56
 go_wp2_with fail
 go_ret
 exact ⟨rfl,hb⟩
theorem way_7 (M:Nat) (nm:ByteArray) (a1 a2 a3 a4:Option Addr) (l1 l2 l3 l4 c1 c2 c3 c4:Nat) (w:World) :
    Calls Tryz.prog 56 #[.pointer (some ⟨M,0,none⟩),.agg #[.int .i64 7,.string nm,.slice a1 l1 c1,.slice a2 l2 c2,.slice a3 l3 c3,.slice a4 l4 c4]] w (fun e w'=>e=.returned (funV 112 M)∧Below w.heap.size w w'):=by
 have hb:Below w.heap.size w (w.alloc (.cells #[.int .i64 7,.string nm,.slice a1 l1 c1,.slice a2 l2 c2,.slice a3 l3 c3,.slice a4 l4 c4] 57)):=(Below.refl _ w).alloc (Nat.le_refl _) _
 go_enter Tryz.func56,Tryz.ntmps56
 go_wp2_with fail
 go_ret
 exact ⟨rfl,hb⟩
theorem more_fresh (s:Lw) (i:Nat):(s.more i).fresh=s.more (i+1):=by
 unfold Lw.more Lw.fresh
 simp only [Lw.mk.injEq,and_true]
 omega
theorem more_zero (s:Lw):s.more 0=s:=by
 unfold Lw.more
 cases s
 simp
theorem fresh_only (K:Le) (hk:K.ok) (s:Lw) (r:Option Nat) (w:World) (h:La K w s r) (hf:Few s 1) :
    Calls Tryz.prog 37 #[.pointer (some ⟨K.M,0,none⟩)] w (fun e w'=>e=.returned (.int .i64 s.pts)∧Only K.M w w'∧La K w' s.fresh r):=by
 obtain ⟨ve,hm,he⟩:=h
 have c4:w.cell? ⟨K.M,4,none⟩=some (.int .i64 s.pts):=hm.mach.cell 4
 have z4:w.frozen? ⟨K.M,4,none⟩=false:=hm.mach.free 4
 have hp:=hm.p0
 have hp1:=hf.p
 have hb:s.pts+1≤9223372036854775807:=by omega
 have hb0:-9223372036854775808≤s.pts+1:=by omega
 obtain ⟨T,hT⟩:∃ T:Int,s.pts=T:=⟨_,rfl⟩
 rw [hT] at c4 hb hb0 hp ⊢
 have hb1:-9223372036854775808≤T:=by omega
 have HH:=zh (za hk (za hm (za hT (za he hp))))
 clear hk hm hT he hf hp1 hp
 go_enter Tryz.func37,Tryz.ntmps37
 go_wp2_with fail
 go_ret
 obtain ⟨hk,hm,hT,he,hp⟩:=HH.out
 have ho:Only K.M w (w.setCell ⟨K.M,4,none⟩ (.int .i64 (T+1))):=(Only.refl K.M w).setCell (p:=⟨K.M,4,none⟩) rfl _
 have hX2:=hm.mach.set 4 (.int .i64 (T+1))
 have e2:(lowV K s ve).setIfInBounds 4 (.int .i64 (T+1))=lowV K s.fresh ve:=by unfold lowV;rw [← hT];rfl
 rw [e2] at hX2
 exact ⟨rfl,ho,ve,hm.setM hk ho hX2 hm.eds (by show 0≤s.pts+1;omega) hm.t0 hm.t1,he⟩
theorem La.grown {K:Le} (hk:K.ok) {w w':World} {s:Lw} {r row:Option Nat} (h:La K w s r) (hg:w.grownBy w' row) (hr:∀ g,row=some g→K.B1≤g∧r≠some g):La K w' s r:=by
 cases row with
 | none=>exact h.next hk ⟨hg.os,hg.tape,hg.output,hg.size,fun k hlt=>hg.block k hlt (by simp)⟩
 | some g=>exact h.tmp hk (hr g rfl).1 (hr g rfl).2 ⟨hg.os,hg.tape,hg.output,hg.size,fun k hlt hne=>hg.block k hlt (fun e=>hne (Option.some.inj e))⟩
theorem Kl.far {K:Le} {r r' row:Option Nat} {a w w':World} (h:Kl K r r' a w) (hg:w.grownBy w' row) (hr:∀ g,row=some g→a.heap.size≤g):Kl K r r' a w' where
 os:=hg.os.trans h.os
 tape:=hg.tape.trans h.tape
 output:=hg.output.trans h.output
 size:=Nat.le_trans h.size hg.size
 block:=fun b hb h1 h4=>(hg.block b (Nat.lt_of_lt_of_le hb h.size) (fun e=>by have:=hr b e.symm;omega)).trans (h.block b hb h1 h4)
 row:=h.row
theorem kindS_of {w:World} {x:Nd} {k:Int} {s:ByteArray} {v1 v2 v3 v4:Value} (hty:x.ty=.S) (h:NdIn w x [.int .i64 k,.string s,v1,v2,v3,v4]):kindN x=k:=by
 obtain ⟨ty,k',n',nm',xs',cs',ts',es'⟩:=x
 simp only [Nd.ty] at hty
 subst hty
 unfold NdIn at h
 obtain ⟨-,-,-,-,vx,vc,vt,ve,e,-⟩:=h
 simp only [lay,List.cons.injEq,Value.int.injEq,true_and] at e
 exact e.1.symm
theorem sitem_at {w0 w:World} {xs:List Nd} {b0 o0:Nat} (hr:RowIn w0 .S xs b0 o0) (hb:Below w0.heap.size w0 w) (i:Nat) (hi:i<xs.length):∃ k s a1 l1 c1 a2 l2 c2 a3 l3 c3 a4 l4 c4,kindN xs[i]=k∧NdIn w0 xs[i] [.int .i64 k,.string s,.slice a1 l1 c1,.slice a2 l2 c2,.slice a3 l3 c3,.slice a4 l4 c4]∧w.cell? ⟨b0,o0+i * 6,none⟩=some (.int .i64 k)∧w.cell? ⟨b0,o0+i * 6+1,none⟩=some (.string s)∧w.cell? ⟨b0,o0+i * 6+2,none⟩=some (.slice a1 l1 c1)∧w.cell? ⟨b0,o0+i * 6+3,none⟩=some (.slice a2 l2 c2)∧w.cell? ⟨b0,o0+i * 6+4,none⟩=some (.slice a3 l3 c3)∧w.cell? ⟨b0,o0+i * 6+5,none⟩=some (.slice a4 l4 c4):=by
 obtain ⟨hty,vs,hc,hnd⟩:=RowIn.at xs b0 o0 i hi hr
 have hl:=hnd.len
 rw [hty] at hl
 obtain ⟨v0,v1,v2,v3,v4,v5,rfl⟩:∃ a b c d e f,vs=[a,b,c,d,e,f]:=by
  match vs,hl with
  | [a,b,c,d,e,f],_=>exact ⟨_,_,_,_,_,_,rfl⟩
 obtain ⟨k,s,a1,l1,c1,a2,l2,c2,a3,l3,c3,a4,l4,c4,rfl,rfl,rfl,rfl,rfl,rfl⟩:=NdIn.formS hty hnd
 have hkd:=kindS_of hty hnd
 have kk:=keeps_below hb
 exact ⟨k,s,a1,l1,c1,a2,l2,c2,a3,l3,c3,a4,l4,c4,hkd,hnd,kk _ _ _ (hc 0 _ rfl),kk _ _ _ (hc 1 _ rfl),kk _ _ _ (hc 2 _ rfl),kk _ _ _ (hc 3 _ rfl),kk _ _ _ (hc 4 _ rfl),kk _ _ _ (hc 5 _ rfl)⟩
theorem info_intc:(Tryz.prog.info? 3).map (fun i=>(i.zero,i.size,i.bytes))=some (some (.int .i64 0),1,8):=by kernel_rfl
def endsV (p:Int) (n:Nat):List Value:=(List.range n).map (fun (j:Nat)=>Value.int .i64 (p+(j:Int)))
theorem endsV_succ (p:Int) (n:Nat):endsV p (n+1)=endsV p n++[.int .i64 (p+(n:Int))]:=by unfold endsV;rw [List.range_succ,List.map_append];rfl
theorem endsV_len (p:Int) (n:Nat):(endsV p n).length=n:=by simp [endsV]
theorem int_one (x:Int):∀ u ∈ [Value.int .i64 x],u.oneCell'=true:=by
 intro u hu
 rw [List.mem_singleton.1 hu]
 rfl
theorem szL_drop:∀ (l:List Nd) (j:Nat),szL (l.drop j)≤szL l
 | [],j=>by rw [List.drop_nil];exact Nat.le_refl _
 | x :: r,0=>Nat.le_refl _
 | x :: r,j+1=>by
   have:=szL_drop r j
   rw [List.drop_succ_cons,szL]
   omega
theorem ends_r {K:Le} {r r1:Option Nat} {w5 w:World} {g:Nat} (hg:g<w5.heap.size) (hr:r≠some g) (hk:Kl K r r1 w5 w):r1≠some g:=by
 rcases hk.row with h | h
 · rw [h];exact hr
 · intro e
   have:=h g e
   omega
theorem own_far {K:Le} {w wr:World} {s:Lw} {r:Option Nat} {ve:Value} {n:Nat} {xs:List Value} {e:TypeId} (h:La K w s r) (ho:wr.ownsRow w.heap.size e 1 ve n xs):∀ g,ve.ownBlock=some g→w.heap.size≤g∧K.B1≤g∧r≠some g:=by
 intro g hg
 have h1:=(ho.lt g hg).1
 refine ⟨h1,Nat.le_trans h.size h1,fun e=>?_⟩
 have:=(h.row g e).2
 omega
structure EndI (K:Le) (r:Option Nat) (w:World) (s:Lw) (i:Nat) (ve:Value) (wr:World):Prop where
 own:wr.ownsRow w.heap.size 3 1 ve i (endsV s.pts i)
 run:La K wr (s.more i) r
 kr:Kl K r r w wr
structure BlkI (K:Le) (r:Option Nat) (w5:World) (l:List Nd) (R:Lw) (p t:Int) (j:Nat) (f1:Int) (s1:Lw) (r1:Option Nat) (wr:World):Prop where
 res:R=lwL K.E (l.drop j) f1 (p+(j:Int)) t s1
 kr:Kl K r r1 w5 wr
 run:La K wr s1 r1
 few:Few s1 (8 * szL (l.drop j) - (l.drop j).length)
theorem block_of (K:Le) (hk:K.ok) (w0:World) (hH:w0.heap.size≤K.H0) (l:List Nd) (hch:∀ i (hi:i<l.length),1≤kindN l[i]∧kindN l[i]≤7∧StC K w0 (wayF (kindN l[i])) l[i]):BlkC K w0 l:=by
 intro v f t s r w hin hw h hf hd
 obtain ⟨a,c,rfl,hlc,hcm,hrow⟩:=hin
 have hls:=len_sz l
 have hfp:=hf.p
 have hfe:=hf.e
 have hp0:0≤s.pts:=by obtain ⟨ve,hm,_⟩:=h;exact hm.p0
 have hM:K.M<w.heap.size:=by obtain ⟨ve,hm,_⟩:=h;exact hm.mach.lt
 have HFR:=zh (fun i (hi:i<l.length - 1) wr (h:La K wr (s.more i) r)=>show Calls Tryz.prog 37 #[.pointer (some ⟨K.M,0,none⟩)] wr (fun e w'=>e=.returned (.int .i64 (s.pts+(i:Int)))∧Only K.M wr w'∧La K w' (s.more (i+1)) r) from by rw [← more_fresh];exact fresh_only K hk (s.more i) r wr h ⟨by show s.pts+(i:Int)+_≤_;omega,by show s.eds.length+_≤_;omega⟩)
 have hI:EndI K r w s 0 (.slice none 0 0) w:=⟨World.ownsRow_nil _ _ _ _,by rw [more_zero];exact h,Kl.refl K r w⟩
 have HI:=zh hI
 have HH:=zh (za h (za hw (za hf (za hch (za hls (za hM (za hp0 hd)))))))
 have HROW:=zh hrow
 obtain ⟨i0,hi0,hz0,hz1,hz2⟩:=info_parts info_intc
 have HI0:=zh hi0
 have HZ0:=zh hz0
 have HZ1:=zh hz1
 have HZ2:=zh hz2
 have hbig:l.length≤1099511627776:=by omega
 have hb1:-9223372036854775808≤(l.length:Int) - 1:=by omega
 have hb2:(l.length:Int) - 1≤9223372036854775807:=by omega
 have HBIG:=zh (za hbig (za hlc (za hcm (za hb1 hb2))))
 clear hI h hw hf hch hls hM hrow hi0 hz0 hz1 hz2 hfp hfe hp0 hd hlc hcm
 go_enter Tryz.func39,Tryz.ntmps39
 go_upto_block 0 with fail
 go_wp2_with fail
 go_loopw [8,15] (fun ve x wr=>∃ (i:Nat),x=.int .i64 i∧i≤l.length - 1∧EndI K r w s i ve wr) (fun _ x _=>l.length - (intOf x).toNat)
 case atStart=>exact ⟨0,rfl,by omega,HI.out⟩
 case round =>
  obtain ⟨i,rfl,hi,hE⟩:=hrel
  have HEI:=zh hE
  clear hE HI
  by_cases hlt:i<l.length - 1
  · have hbi:(i:Int)+1≤9223372036854775807:=by omega
    have hti:decide ((i:Int)<(l.length:Int) - 1)=true:=by simp;omega
    have HFI:=zh (HFR.out i hlt wr HEI.out.run)
    have hn1:i+1≤maxLen:=by unfold maxLen;omega
    have hn2:(i+1) * 8≤140737488355328:=by omega
    have HNN:=zh (za hn1 hn2)
    clear hn1 hn2 hbig hb1 hb2
    go_wp2_with (first | (go_at_call 37;(with_reducible refine HFI.out.mono ?_);rintro e w2 ⟨rfl,ho2,h2⟩;have H2:=zh (za ho2 (za h2 (za (ownsRow_only HEI.out.own ho2 HH.out.2.2.2.2.2.1) (Nat.le_trans HEI.out.kr.size ho2.size))));have HNW:=zh (World.news_of_block (cs:=#[.int .i64 (s.pts+(i:Int))]) (t:=3) (fr:=(0,0)) (heap_alloc_new w2 (.cells #[.int .i64 (s.pts+(i:Int))] 3)));have HSZ:=zh (show w.heap.size≤(w2.alloc (.cells #[.int .i64 (s.pts+(i:Int))] 3)).heap.size by rw [World.size_alloc];have:=H2.out.2.2.2;omega);clear ho2 h2) | (at_builtin;(with_reducible refine wpList_append_lies _ rfl (.tmp 17) (.tmp 20) 113 rfl w.heap.size 3 i0 _ 1 8 Tryz.underlying113 HI0.out HZ0.out HZ1.out HZ2.out rfl (by omega) _ i (endsV s.pts i) rfl (H2.out.2.2.1.alloc _) ⟨_,0,none⟩ 1 1 [.int .i64 (s.pts+(i:Int))] rfl rfl HNW.out (int_one _) (by omega) HNN.out.1 HNN.out.2 HSZ.out _ rfl ?_);(intro gg cap w4 hown4 hgrow hat hlt4)) | fail)
    go_roundw
    case rel =>
     refine ⟨i+1,by go_num,by omega,?_⟩
     have hown:w4.ownsRow w.heap.size 3 1 (.slice (some ⟨gg,0,none⟩) (i+1) cap) (i+1) (endsV s.pts (i+1)):=by rw [endsV_succ];exact hown4
     have hrg:=own_far HH.out.1 HEI.out.own
     exact ⟨hown,(H2.out.2.1.alloc hk _).grown hk hgrow (fun g hg=>(hrg g hg).2),((HEI.out.kr.trans (Kl.onlyM H2.out.1)).alloc _).far hgrow (fun g hg=>(hrg g hg).1)⟩
    case measure=>simp [intOf];omega
  · obtain rfl:i=l.length - 1:=by omega
    have hti:decide (((l.length - 1:Nat):Int)<(l.length:Int) - 1)=false:=by simp;omega
    have hn1:l.length - 1+1≤maxLen:=by unfold maxLen;omega
    have hn2:(l.length - 1+1) * 8≤140737488355328:=by omega
    have HNN:=zh (za hn1 hn2)
    have HNW:=zh (World.news_of_block (cs:=#[.int .i64 t]) (t:=3) (fr:=(0,0)) (heap_alloc_new wr (.cells #[.int .i64 t] 3)))
    have HSZ:=zh (show w.heap.size≤(wr.alloc (.cells #[.int .i64 t] 3)).heap.size by rw [World.size_alloc];have:=HEI.out.kr.size;omega)
    obtain ⟨E,hE⟩:∃ E,l.length - 1=E:=⟨_,rfl⟩
    rw [hE] at hti
    rw [hE] at HEI
    rw [hE] at HNN
    have HEE:=zh hE
    rw [hE]
    clear hn1 hn2 hbig hb1 hb2 hlt hi hE HFR
    go_upto_region 6 with (first | (at_builtin;(with_reducible refine wpList_append_lies _ rfl (.tmp 23) (.tmp 25) 113 rfl w.heap.size 3 i0 _ 1 8 Tryz.underlying113 HI0.out HZ0.out HZ1.out HZ2.out rfl (by omega) _ E (endsV s.pts E) rfl (HEI.out.own.alloc _) ⟨_,0,none⟩ 1 1 [.int .i64 t] rfl rfl HNW.out (int_one _) (by omega) HNN.out.1 HNN.out.2 HSZ.out _ rfl ?_);(intro gg cap w5 hown5 hgrow hat hlt5)) | fail)
    have hrg:=own_far HH.out.1 HEI.out.own
    have h5:=(HEI.out.run.alloc hk (.cells #[.int .i64 t] 3)).grown hk hgrow (fun g hg=>(hrg g hg).2)
    have hkr5:=(HEI.out.kr.alloc (.cells #[.int .i64 t] 3)).far hgrow (fun g hg=>(hrg g hg).1)
    have hrg5:=own_far HH.out.1 hown5 gg rfl
    have hends:∀ j,(hj:j<E+1)→w5.cell? ⟨gg,j,none⟩=some (.int .i64 (if j=E then t else s.pts+(j:Int))):=by
     intro j hj
     have hx:(endsV s.pts E++[Value.int .i64 t])[j]?=some (.int .i64 (if j=E then t else s.pts+(j:Int))):=by
      by_cases hje:j=E
      · subst hje
        rw [List.getElem?_append_right (by rw [endsV_len];exact Nat.le_refl _),endsV_len,Nat.sub_self,if_pos rfl]
        rfl
      · rw [List.getElem?_append_left (by rw [endsV_len];omega),if_neg hje]
        unfold endsV
        rw [List.getElem?_map,List.getElem?_range (by omega)]
        rfl
     have:=hown5.cells (g:=gg) rfl j _ hx
     rw [add_none,Nat.zero_add] at this
     exact this
    have hB:BlkI K r w5 l (lwB K.E l f t s) s.pts t 0 f (s.more E) r w5:=⟨by unfold lwB blkF;rw [HEE.out,List.drop_zero];simp,Kl.refl K r w5,h5,by rw [List.drop_zero];exact ⟨by have:=HH.out.2.2.1.p;have:=HEE.out;have:=HH.out.2.2.2.2.1;show s.pts+(E:Int)+_≤_;omega,by have:=HH.out.2.2.1.e;show s.eds.length+_≤_;omega⟩⟩
    have HB:=zh hB
    have H5:=zh (za h5 (za hkr5 (za hends (za hrg5 hlt5))))
    have HE0:=zh (show l.length≤E+1 by have:=HEE.out;omega)
    clear h5 hkr5 hrg hends hB hown5 hgrow hat hlt5 hrg5 HNN HNW HSZ HEI hti
    have hbg:(l.length:Int)≤1099511627776:=by have:=HBIG.out.1;omega
    have hbe:(l.length:Int)≤((E+1:Nat):Int):=by have:=HE0.out;omega
    go_wp2_with fail
    go_loopw [2,29] (fun f' x wr=>∃ (j:Nat) (f1:Int) (s1:Lw) (r1:Option Nat),f'=.int .i64 f1∧x=.int .i64 j∧j≤l.length∧BlkI K r w5 l (lwB K.E l f t s) s.pts t j f1 s1 r1 wr) (fun _ x _=>l.length - (intOf x).toNat)
    case atStart=>exact ⟨0,f,s.more E,r,rfl,rfl,by omega,HB.out⟩
    case round =>
     obtain ⟨j,f1,s1,r1,rfl,rfl,hj,hBI⟩:=hrel
     have HBI:=zh hBI
     clear hBI HB
     obtain ⟨wo,hwo⟩:∃ x,x=wr:=⟨_,rfl⟩
     subst hwo
     by_cases hlt:j<l.length
     · have hbi:(j:Int)+1≤9223372036854775807:=by omega
       have hkr:=H5.out.2.1.trans HBI.out.kr
       have hold:Below w0.heap.size w0 wo:=HH.out.2.1.trans ((hkr.old hk HH.out.1).mono hH)
       obtain ⟨b0,o0,rfl,hrw⟩:=HROW.out.resolve_left (by omega)
       obtain ⟨k,ns,a1,l1,c1,a2,l2,c2,a3,l3,c3,a4,l4,c4,hkd,hnd,k0,k1,k2,k3,k4,k5⟩:=sitem_at hrw hold j hlt
       have hce:w5.cell? ⟨gg,j,none⟩=some (.int .i64 (if j=E then t else s.pts+(j:Int))):=H5.out.2.2.1 j (by have:=HE0.out;omega)
       obtain ⟨EN,hEN⟩:∃ e,(if j=E then t else s.pts+(j:Int))=e:=⟨_,rfl⟩
       rw [hEN] at hce
       have hbk:wo.heap[gg]?=w5.heap[gg]?:=HBI.out.kr.block gg H5.out.2.2.2.2 (fun e=>by have:=H5.out.2.2.2.1.1;have:=HH.out.2.2.2.2.2.1;omega) H5.out.2.2.2.1.2.2
       have hce2:wo.cell? ⟨gg,j,none⟩=some (.int .i64 EN):=(World.cell?_of_block (w:=w5) hbk).trans hce
       have hdrop:l.drop j=l[j] :: l.drop (j+1):=List.drop_eq_getElem_cons hlt
       have hsz:szL (l.drop j)=szN l[j]+szL (l.drop (j+1)):=by rw [hdrop,szL]
       have hll:(l.drop j).length=(l.drop (j+1)).length+1:=by rw [hdrop];rfl
       have hls1:=len_sz (l.drop (j+1))
       have hx:=args_sz l[j]
       have hfew:=HBI.out.few
       rw [hsz,hll] at hfew
       have hfp:=hfew.p
       have hfe:=hfew.e
       have hres:=HBI.out.res
       rw [hdrop,lwL] at hres
       have hen2:(if (l.drop (j+1)).isEmpty then t else s.pts+(j:Int))=EN:=by
        rw [← hEN]
        have hiff:(l.drop (j+1)).isEmpty=decide (j=E):=by
         rw [Bool.eq_iff_iff]
         simp only [List.isEmpty_iff,List.drop_eq_nil_iff,decide_eq_true_eq]
         have:=HEE.out
         omega
        rw [hiff]
        simp
       rw [hen2] at hres
       have hdd:szN l[j]≤1099511627776:=by
        have h1:=HH.out.2.2.2.2.2.2.2
        have h2:szL (l.drop j)≤szL l:=szL_drop l j
        omega
       obtain ⟨hk1,hk7,hst⟩:=HH.out.2.2.2.1 j hlt
       rw [hkd] at hk1 hk7 hst
       have hal:Below wo.heap.size wo (wo.alloc (.cells #[.int .i64 k,.string ns,.slice a1 l1 c1,.slice a2 l2 c2,.slice a3 l3 c3,.slice a4 l4 c4] 57)):=(Below.refl _ wo).alloc (Nat.le_refl _) _
       have hV:=Tl.new HBI.out.run #[.int .i64 k,.string ns,.slice a1 l1 c1,.slice a2 l2 c2,.slice a3 l3 c3,.slice a4 l4 c4] 57
       have hrn:=HBI.out.run.next hk hal
       have hkn:=HBI.out.kr.trans (Kl.below (r:=r1) hal)
       have hon:=hold.trans (hal.mono hold.size)
       have hcn:=keeps_below hal _ _ _ hce2
       have hgr:=lwN_gr K.E l[j] f1 EN s1
       obtain ⟨s2,hs2⟩:∃ z,lwN K.E l[j] f1 EN s1=z:=⟨_,rfl⟩
       rw [hs2] at hgr hres
       have hnew:Few s2 (8 * szL (l.drop (j+1)) - (l.drop (j+1)).length):=⟨by have:=hgr.p1;omega,by have:=hgr.e1;omega⟩
       have HST:=zh (fun w (hb:Below w0.heap.size w0 w) (h:La K w s1 r1)=>hst _ f1 EN s1 r1 w hnd hb h ⟨by omega,by omega⟩ hdd)
       have hpj:s.pts+(j:Int)+1=s.pts+((j+1:Nat):Int):=by omega
       rw [hpj] at hres
       have HST2:=zh (za hs2 (za hnew (za hres (za hV (za hrn (za hkn (za hon hcn)))))))
       have hjE:(j:Int)<(E:Int)+1:=by have:=HE0.out;omega
       have hjE2:j<E+1:=by have:=HE0.out;omega
       have HJ:=zh (za hj hlt)
       clear hkr hold hrw hnd hce hEN hbk hdrop hsz hll hls1 hx hfew hfp hfe hres hen2 hdd hst hal hV hrn hkn hon hgr hs2 hnew hpj hj HBI
       have hcase:k=1∨k=2∨k=3∨k=4∨k=5∨k=6∨k=7:=by omega
       clear hk1 hk7 hkd hbg hbe
       rcases hcase with rfl | rfl | rfl | rfl | rfl | rfl | rfl
       · have HS:=zh (fun w (hb:Below w0.heap.size w0 w) (h:La K w s1 r1)=>show Calls Tryz.prog 106 #[.pointer (some ⟨K.M,0,none⟩),.agg #[.int .i64 1,.string ns,.slice a1 l1 c1,.slice a2 l2 c2,.slice a3 l3 c3,.slice a4 l4 c4],.int .i64 f1,.int .i64 EN] w (Lows K unitT r1 w s2) from by rw [← HST2.out.1];exact HST.out w hb h)
         have HWY:=zh (fun w=>way_1 K.M ns a1 a2 a3 a4 l1 l2 l3 l4 c1 c2 c3 c4 w)
         go_wp2_with (first | (go_at_call 56;(with_reducible refine (HWY.out _).mono ?_);rintro e w6 ⟨rfl,hb6⟩;have HB6:=zh hb6;have v6:=(HST2.out.2.2.2.1.next hb6).blk.cell;have e6:=keeps_below hb6 _ _ _ HST2.out.2.2.2.2.2.2.2;clear hb6) | fail)
         go_region_with (first | (go_at_call 106;(with_reducible refine (HS.out _ (HST2.out.2.2.2.2.2.2.1.trans (HB6.out.mono HST2.out.2.2.2.2.2.2.1.size)).drew ((HST2.out.2.2.2.2.1.next hk HB6.out).drew hk)).mono ?_);rintro e w7 ⟨rfl,r7,hk7,h7⟩;have hce7:w7.cell? ⟨gg,j,none⟩=some (.int .i64 EN):=(World.cell?_of_block (hk7.block gg (World.block_lt_of_cell? _ _ e6) (fun e=>by have:=H5.out.2.2.2.1.1;have:=HH.out.2.2.2.2.2.1;omega) (ends_r H5.out.2.2.2.2 H5.out.2.2.2.1.2.2 HST2.out.2.2.2.2.2.1))).trans e6;have H7:=zh (za hk7 h7);clear hk7 h7 v6 e6) | fail)
         all_goals
          go_wp2_with fail
          go_roundw
          case rel=>exact ⟨j+1,EN,s2,r7,rfl,by go_num,by have:=HJ.out;omega,⟨HST2.out.2.2.1,((HST2.out.2.2.2.2.2.1.trans (Kl.below HB6.out)).drew).trans H7.out.1,H7.out.2,HST2.out.2.1⟩⟩
          case measure=>have:=HJ.out;simp [intOf];omega
       · have HS:=zh (fun w (hb:Below w0.heap.size w0 w) (h:La K w s1 r1)=>show Calls Tryz.prog 107 #[.pointer (some ⟨K.M,0,none⟩),.agg #[.int .i64 2,.string ns,.slice a1 l1 c1,.slice a2 l2 c2,.slice a3 l3 c3,.slice a4 l4 c4],.int .i64 f1,.int .i64 EN] w (Lows K unitT r1 w s2) from by rw [← HST2.out.1];exact HST.out w hb h)
         have HWY:=zh (fun w=>way_2 K.M ns a1 a2 a3 a4 l1 l2 l3 l4 c1 c2 c3 c4 w)
         go_wp2_with (first | (go_at_call 56;(with_reducible refine (HWY.out _).mono ?_);rintro e w6 ⟨rfl,hb6⟩;have HB6:=zh hb6;have v6:=(HST2.out.2.2.2.1.next hb6).blk.cell;have e6:=keeps_below hb6 _ _ _ HST2.out.2.2.2.2.2.2.2;clear hb6) | fail)
         go_region_with (first | (go_at_call 107;(with_reducible refine (HS.out _ (HST2.out.2.2.2.2.2.2.1.trans (HB6.out.mono HST2.out.2.2.2.2.2.2.1.size)).drew ((HST2.out.2.2.2.2.1.next hk HB6.out).drew hk)).mono ?_);rintro e w7 ⟨rfl,r7,hk7,h7⟩;have hce7:w7.cell? ⟨gg,j,none⟩=some (.int .i64 EN):=(World.cell?_of_block (hk7.block gg (World.block_lt_of_cell? _ _ e6) (fun e=>by have:=H5.out.2.2.2.1.1;have:=HH.out.2.2.2.2.2.1;omega) (ends_r H5.out.2.2.2.2 H5.out.2.2.2.1.2.2 HST2.out.2.2.2.2.2.1))).trans e6;have H7:=zh (za hk7 h7);clear hk7 h7 v6 e6) | fail)
         all_goals
          go_wp2_with fail
          go_roundw
          case rel=>exact ⟨j+1,EN,s2,r7,rfl,by go_num,by have:=HJ.out;omega,⟨HST2.out.2.2.1,((HST2.out.2.2.2.2.2.1.trans (Kl.below HB6.out)).drew).trans H7.out.1,H7.out.2,HST2.out.2.1⟩⟩
          case measure=>have:=HJ.out;simp [intOf];omega
       · have HS:=zh (fun w (hb:Below w0.heap.size w0 w) (h:La K w s1 r1)=>show Calls Tryz.prog 108 #[.pointer (some ⟨K.M,0,none⟩),.agg #[.int .i64 3,.string ns,.slice a1 l1 c1,.slice a2 l2 c2,.slice a3 l3 c3,.slice a4 l4 c4],.int .i64 f1,.int .i64 EN] w (Lows K unitT r1 w s2) from by rw [← HST2.out.1];exact HST.out w hb h)
         have HWY:=zh (fun w=>way_3 K.M ns a1 a2 a3 a4 l1 l2 l3 l4 c1 c2 c3 c4 w)
         go_wp2_with (first | (go_at_call 56;(with_reducible refine (HWY.out _).mono ?_);rintro e w6 ⟨rfl,hb6⟩;have HB6:=zh hb6;have v6:=(HST2.out.2.2.2.1.next hb6).blk.cell;have e6:=keeps_below hb6 _ _ _ HST2.out.2.2.2.2.2.2.2;clear hb6) | fail)
         go_region_with (first | (go_at_call 108;(with_reducible refine (HS.out _ (HST2.out.2.2.2.2.2.2.1.trans (HB6.out.mono HST2.out.2.2.2.2.2.2.1.size)).drew ((HST2.out.2.2.2.2.1.next hk HB6.out).drew hk)).mono ?_);rintro e w7 ⟨rfl,r7,hk7,h7⟩;have hce7:w7.cell? ⟨gg,j,none⟩=some (.int .i64 EN):=(World.cell?_of_block (hk7.block gg (World.block_lt_of_cell? _ _ e6) (fun e=>by have:=H5.out.2.2.2.1.1;have:=HH.out.2.2.2.2.2.1;omega) (ends_r H5.out.2.2.2.2 H5.out.2.2.2.1.2.2 HST2.out.2.2.2.2.2.1))).trans e6;have H7:=zh (za hk7 h7);clear hk7 h7 v6 e6) | fail)
         all_goals
          go_wp2_with fail
          go_roundw
          case rel=>exact ⟨j+1,EN,s2,r7,rfl,by go_num,by have:=HJ.out;omega,⟨HST2.out.2.2.1,((HST2.out.2.2.2.2.2.1.trans (Kl.below HB6.out)).drew).trans H7.out.1,H7.out.2,HST2.out.2.1⟩⟩
          case measure=>have:=HJ.out;simp [intOf];omega
       · have HS:=zh (fun w (hb:Below w0.heap.size w0 w) (h:La K w s1 r1)=>show Calls Tryz.prog 109 #[.pointer (some ⟨K.M,0,none⟩),.agg #[.int .i64 4,.string ns,.slice a1 l1 c1,.slice a2 l2 c2,.slice a3 l3 c3,.slice a4 l4 c4],.int .i64 f1,.int .i64 EN] w (Lows K unitT r1 w s2) from by rw [← HST2.out.1];exact HST.out w hb h)
         have HWY:=zh (fun w=>way_4 K.M ns a1 a2 a3 a4 l1 l2 l3 l4 c1 c2 c3 c4 w)
         go_wp2_with (first | (go_at_call 56;(with_reducible refine (HWY.out _).mono ?_);rintro e w6 ⟨rfl,hb6⟩;have HB6:=zh hb6;have v6:=(HST2.out.2.2.2.1.next hb6).blk.cell;have e6:=keeps_below hb6 _ _ _ HST2.out.2.2.2.2.2.2.2;clear hb6) | fail)
         go_region_with (first | (go_at_call 109;(with_reducible refine (HS.out _ (HST2.out.2.2.2.2.2.2.1.trans (HB6.out.mono HST2.out.2.2.2.2.2.2.1.size)).drew ((HST2.out.2.2.2.2.1.next hk HB6.out).drew hk)).mono ?_);rintro e w7 ⟨rfl,r7,hk7,h7⟩;have hce7:w7.cell? ⟨gg,j,none⟩=some (.int .i64 EN):=(World.cell?_of_block (hk7.block gg (World.block_lt_of_cell? _ _ e6) (fun e=>by have:=H5.out.2.2.2.1.1;have:=HH.out.2.2.2.2.2.1;omega) (ends_r H5.out.2.2.2.2 H5.out.2.2.2.1.2.2 HST2.out.2.2.2.2.2.1))).trans e6;have H7:=zh (za hk7 h7);clear hk7 h7 v6 e6) | fail)
         all_goals
          go_wp2_with fail
          go_roundw
          case rel=>exact ⟨j+1,EN,s2,r7,rfl,by go_num,by have:=HJ.out;omega,⟨HST2.out.2.2.1,((HST2.out.2.2.2.2.2.1.trans (Kl.below HB6.out)).drew).trans H7.out.1,H7.out.2,HST2.out.2.1⟩⟩
          case measure=>have:=HJ.out;simp [intOf];omega
       · have HS:=zh (fun w (hb:Below w0.heap.size w0 w) (h:La K w s1 r1)=>show Calls Tryz.prog 110 #[.pointer (some ⟨K.M,0,none⟩),.agg #[.int .i64 5,.string ns,.slice a1 l1 c1,.slice a2 l2 c2,.slice a3 l3 c3,.slice a4 l4 c4],.int .i64 f1,.int .i64 EN] w (Lows K unitT r1 w s2) from by rw [← HST2.out.1];exact HST.out w hb h)
         have HWY:=zh (fun w=>way_5 K.M ns a1 a2 a3 a4 l1 l2 l3 l4 c1 c2 c3 c4 w)
         go_wp2_with (first | (go_at_call 56;(with_reducible refine (HWY.out _).mono ?_);rintro e w6 ⟨rfl,hb6⟩;have HB6:=zh hb6;have v6:=(HST2.out.2.2.2.1.next hb6).blk.cell;have e6:=keeps_below hb6 _ _ _ HST2.out.2.2.2.2.2.2.2;clear hb6) | fail)
         go_region_with (first | (go_at_call 110;(with_reducible refine (HS.out _ (HST2.out.2.2.2.2.2.2.1.trans (HB6.out.mono HST2.out.2.2.2.2.2.2.1.size)).drew ((HST2.out.2.2.2.2.1.next hk HB6.out).drew hk)).mono ?_);rintro e w7 ⟨rfl,r7,hk7,h7⟩;have hce7:w7.cell? ⟨gg,j,none⟩=some (.int .i64 EN):=(World.cell?_of_block (hk7.block gg (World.block_lt_of_cell? _ _ e6) (fun e=>by have:=H5.out.2.2.2.1.1;have:=HH.out.2.2.2.2.2.1;omega) (ends_r H5.out.2.2.2.2 H5.out.2.2.2.1.2.2 HST2.out.2.2.2.2.2.1))).trans e6;have H7:=zh (za hk7 h7);clear hk7 h7 v6 e6) | fail)
         all_goals
          go_wp2_with fail
          go_roundw
          case rel=>exact ⟨j+1,EN,s2,r7,rfl,by go_num,by have:=HJ.out;omega,⟨HST2.out.2.2.1,((HST2.out.2.2.2.2.2.1.trans (Kl.below HB6.out)).drew).trans H7.out.1,H7.out.2,HST2.out.2.1⟩⟩
          case measure=>have:=HJ.out;simp [intOf];omega
       · have HS:=zh (fun w (hb:Below w0.heap.size w0 w) (h:La K w s1 r1)=>show Calls Tryz.prog 111 #[.pointer (some ⟨K.M,0,none⟩),.agg #[.int .i64 6,.string ns,.slice a1 l1 c1,.slice a2 l2 c2,.slice a3 l3 c3,.slice a4 l4 c4],.int .i64 f1,.int .i64 EN] w (Lows K unitT r1 w s2) from by rw [← HST2.out.1];exact HST.out w hb h)
         have HWY:=zh (fun w=>way_6 K.M ns a1 a2 a3 a4 l1 l2 l3 l4 c1 c2 c3 c4 w)
         go_wp2_with (first | (go_at_call 56;(with_reducible refine (HWY.out _).mono ?_);rintro e w6 ⟨rfl,hb6⟩;have HB6:=zh hb6;have v6:=(HST2.out.2.2.2.1.next hb6).blk.cell;have e6:=keeps_below hb6 _ _ _ HST2.out.2.2.2.2.2.2.2;clear hb6) | fail)
         go_region_with (first | (go_at_call 111;(with_reducible refine (HS.out _ (HST2.out.2.2.2.2.2.2.1.trans (HB6.out.mono HST2.out.2.2.2.2.2.2.1.size)).drew ((HST2.out.2.2.2.2.1.next hk HB6.out).drew hk)).mono ?_);rintro e w7 ⟨rfl,r7,hk7,h7⟩;have hce7:w7.cell? ⟨gg,j,none⟩=some (.int .i64 EN):=(World.cell?_of_block (hk7.block gg (World.block_lt_of_cell? _ _ e6) (fun e=>by have:=H5.out.2.2.2.1.1;have:=HH.out.2.2.2.2.2.1;omega) (ends_r H5.out.2.2.2.2 H5.out.2.2.2.1.2.2 HST2.out.2.2.2.2.2.1))).trans e6;have H7:=zh (za hk7 h7);clear hk7 h7 v6 e6) | fail)
         all_goals
          go_wp2_with fail
          go_roundw
          case rel=>exact ⟨j+1,EN,s2,r7,rfl,by go_num,by have:=HJ.out;omega,⟨HST2.out.2.2.1,((HST2.out.2.2.2.2.2.1.trans (Kl.below HB6.out)).drew).trans H7.out.1,H7.out.2,HST2.out.2.1⟩⟩
          case measure=>have:=HJ.out;simp [intOf];omega
       · have HS:=zh (fun w (hb:Below w0.heap.size w0 w) (h:La K w s1 r1)=>show Calls Tryz.prog 112 #[.pointer (some ⟨K.M,0,none⟩),.agg #[.int .i64 7,.string ns,.slice a1 l1 c1,.slice a2 l2 c2,.slice a3 l3 c3,.slice a4 l4 c4],.int .i64 f1,.int .i64 EN] w (Lows K unitT r1 w s2) from by rw [← HST2.out.1];exact HST.out w hb h)
         have HWY:=zh (fun w=>way_7 K.M ns a1 a2 a3 a4 l1 l2 l3 l4 c1 c2 c3 c4 w)
         go_wp2_with (first | (go_at_call 56;(with_reducible refine (HWY.out _).mono ?_);rintro e w6 ⟨rfl,hb6⟩;have HB6:=zh hb6;have v6:=(HST2.out.2.2.2.1.next hb6).blk.cell;have e6:=keeps_below hb6 _ _ _ HST2.out.2.2.2.2.2.2.2;clear hb6) | fail)
         go_region_with (first | (go_at_call 112;(with_reducible refine (HS.out _ (HST2.out.2.2.2.2.2.2.1.trans (HB6.out.mono HST2.out.2.2.2.2.2.2.1.size)).drew ((HST2.out.2.2.2.2.1.next hk HB6.out).drew hk)).mono ?_);rintro e w7 ⟨rfl,r7,hk7,h7⟩;have hce7:w7.cell? ⟨gg,j,none⟩=some (.int .i64 EN):=(World.cell?_of_block (hk7.block gg (World.block_lt_of_cell? _ _ e6) (fun e=>by have:=H5.out.2.2.2.1.1;have:=HH.out.2.2.2.2.2.1;omega) (ends_r H5.out.2.2.2.2 H5.out.2.2.2.1.2.2 HST2.out.2.2.2.2.2.1))).trans e6;have H7:=zh (za hk7 h7);clear hk7 h7 v6 e6) | fail)
         all_goals
          go_wp2_with fail
          go_roundw
          case rel=>exact ⟨j+1,EN,s2,r7,rfl,by go_num,by have:=HJ.out;omega,⟨HST2.out.2.2.1,((HST2.out.2.2.2.2.2.1.trans (Kl.below HB6.out)).drew).trans H7.out.1,H7.out.2,HST2.out.2.1⟩⟩
          case measure=>have:=HJ.out;simp [intOf];omega
     · obtain rfl:j=l.length:=by omega
       go_wp2_with fail
       go_end0
       have hres:=HBI.out.res
       rw [List.drop_length,lwL] at hres
       rw [hres]
       exact ⟨rfl,r1,H5.out.2.1.trans HBI.out.kr,HBI.out.run⟩
end Go.Proofs.YtmohmggnjldddaaGreatDoor
