/-
  The lowering's operand: proved is that it is the plain one, if what lowers into something is.
-/
import Derived.Test.YtmohmggnjldddaaGreatDoorQCfgA
import Derived.Laws.ResultCell
namespace Go.Proofs.YtmohmggnjldddaaGreatDoor
open Go Go.RowKit Go.Maps
abbrev opV (o:Int × Int):Value:=.agg #[.int .i64 o.1,.int .i64 o.2]
def plainV:Option (Int × Int)→Value
 | some o=>.tuple #[opV o,.bool true]
 | none=>.tuple #[.agg #[.int .i64 0,.int .i64 0],.bool false]
theorem res_row_tmp {P:Program} {fn:Func} {p u:Tmp} {ty:TypeId} (h:fn.results=#[.cell p ty,.tmp u]) (tmps:Array Value) (w:World) (g:Nat) (t:TypeId) (cs:Array Value) (fr:Nat × Nat) (d:TypeDesc)
    (hp:tmps.getD p undef=.pointer (some ⟨g,0,none⟩)) (hg:w.heap[g]?=some (.cells cs t fr))
    (hu:P.underlying ty=some d) (hd:(match d with | .struct _ | .array _ _=>true | _=>false)=true) (hi:(P.info? ty).map (·.size)=some cs.size) :
    (results fn tmps).run P w=.ok (.tuple #[.agg cs,tmps.getD u undef]) w:=by
 have hp':tmps[p]?.getD undef=.pointer (some ⟨g,0,none⟩):=by simpa using hp
 rw [results_cell_tmp h]
 simp [hp',asAddr,run_loadVar_row w g t ty cs fr d hg hu hd hi]
theorem neg_w9 {n:Int} (h0:0≤n) (hn:i64ok n):IntKind.i64.wrap (-n) = -n:=by
 have h:=fits_wf hn
 exact fits_wrap (by unfold fitsI at *;omega)
theorem Lc.look {K:Le} {w:World} {s:Lw} {ve:Value} (hk:K.ok) (h:Lc K w s ve) (nm:ByteArray) (hn:nm.size≤maxLen):(Instr.lookup 66 (.map (some K.G)) (.string nm) false).run Tryz.prog w=.ok (.int .i64 (K.E.pl nm)) w:=by
 obtain ⟨c,hrun,hat,_⟩:=h.map.lookup_int law9 (by kernel_rfl:Tryz.prog.underlying 66=some (.map 9 3)) under_int (zeroI _) (WideMaps.keyOf_string_mk (by kernel_rfl) hn:keyOf Tryz.prog 9 (.string nm)=some (keyS nm))
 have h2:=(hk.look nm).symm.trans hat
 simp only [DataW.lit.injEq,Lit.int.injEq,true_and] at h2
 rw [h2]
 exact hrun
set_option maxRecDepth 100000 in
set_option maxHeartbeats 4000000 in
theorem plain_any (K:Le) (hk:K.ok) (w0:World) (x:Nd) (us:List Value) (hty:x.ty=.E) (hok:fmN x) (hin:NdIn w0 x us) (s:Lw) (r:Option Nat) (w:World) (hw:Below w0.heap.size w0 w) (h:La K w s r) :
    Calls Tryz.prog 149 #[.pointer (some ⟨K.M,0,none⟩),.agg us.toArray] w (fun e w'=>e=.returned (plainV (simN K.E x))∧Below w.heap.size w w'):=by
 obtain ⟨ty,k,n,nm,xs,cs,ts,es⟩:=x
 simp only [Nd.ty] at hty
 subst hty
 unfold fmN at hok
 obtain ⟨⟨hk1,hk2,-,-,hk4,-⟩,hxs,-⟩:=hok
 unfold NdIn at hin
 obtain ⟨hz,-,-,hnm,vx,vc,vt,ve0,rfl,hsl,-⟩:=hin
 simp only [fits] at hz
 obtain ⟨rfl,rfl,rfl⟩:=hz
 obtain ⟨a,c,rfl,hlc,hcm,hrow⟩:=hsl
 change Calls _ _ #[_,.agg #[.int .i64 k,.int .i64 n,.string nm,.slice a xs.length c]] w _
 have hsim:simN K.E (.mk .E k n nm xs [] [] [])=simK K.E k nm (conK k n xs):=rfl
 obtain ⟨W1,hW1⟩:∃ W1,w.alloc (.cells #[.int .i64 k,.int .i64 n,.string nm,.slice a xs.length c] 142)=W1:=⟨_,rfl⟩
 have hX1:Blk W1 w.heap.size #[.int .i64 k,.int .i64 n,.string nm,.slice a xs.length c] 142:=by rw [← hW1];exact Blk.new w _ _
 have hb1:Below w.heap.size w W1:=by rw [← hW1];exact (Below.refl w.heap.size w).alloc (Nat.le_refl _) _
 have hs1:W1.heap.size=w.heap.size+1:=by rw [← hW1];exact World.size_alloc _ _
 obtain ⟨W2,hW2⟩:∃ W2,W1.alloc (.cells #[.int .i64 0,.int .i64 0] 38)=W2:=⟨_,rfl⟩
 have hX2:Blk W2 w.heap.size #[.int .i64 k,.int .i64 n,.string nm,.slice a xs.length c] 142:=by rw [← hW2];exact hX1.alloc _
 have hY2:Blk W2 W1.heap.size #[.int .i64 0,.int .i64 0] 38:=by rw [← hW2];exact Blk.new W1 _ _
 have hb2:Below w.heap.size w W2:=by rw [← hW2];exact hb1.alloc hb1.size _
 obtain ⟨X,hX⟩:∃ X,w.heap.size=X:=⟨_,rfl⟩
 obtain ⟨Y,hY⟩:∃ Y,W1.heap.size=Y:=⟨_,rfl⟩
 have h2:=h.next hk hb2
 rw [hX] at hX2
 rw [hY] at hY2
 have x0:W2.cell? ⟨X,0,none⟩=some (.int .i64 k):=hX2.cell 0
 have x1:W2.cell? ⟨X,1,none⟩=some (.int .i64 n):=hX2.cell 1
 have x2:W2.cell? ⟨X,2,none⟩=some (.string nm):=hX2.cell 2
 have x3:W2.cell? ⟨X,3,none⟩=some (.slice a xs.length c):=hX2.cell 3
 have y0:W2.frozen? ⟨Y,0,none⟩=false:=hY2.free 0
 have y1:W2.frozen? ⟨Y,1,none⟩=false:=hY2.free 1
 have kk:=keeps_below (hw.trans (hb2.mono hw.size))
 have HY:=Lib.hid hY2
 have HB2:=Lib.hid hb2
 have HW:=Lib.hid (And.intro hW1 (And.intro hW2 (And.intro hX (show X+1=Y by rw [← hY,← hX,hs1]))))
 have HN:=fun n w=>cnum_any n w
 have hYs:X < Y:=by omega
 clear hX1 hX2 hY2 hb1 hs1 hW1 hW2 hX hY
 by_cases k1:k=1
 · subst k1
   have e:simN K.E (.mk .E 1 n nm xs [] [] [])=some (-1,n):=by rw [hsim];cases xs <;> rfl
   rw [e]
   clear e hrow hw hxs hk4 hk1 hk2 kk h2 h hsim
   go_enter Tryz.func149,Tryz.ntmps149
   go_upto_block 0 with fail
   rw [HW.out.1,HW.out.2.1,HW.out.2.2.1,HW.out.2.2.2]
   go_wp2_with (first | (go_at_call 167;(with_reducible refine (HN _ _).mono ?_);rintro e w2 ⟨rfl,hb3⟩;have HY3:=Lib.hid (And.intro (HY.out.next hb3) (HB2.out.trans (hb3.mono HB2.out.size)));have yc:=HY3.out.1.cell;have yf:=HY3.out.1.free;clear hb3) | fail)
   have hblk:Blk _ Y #[.int .i64 (-1),.int .i64 n] 38:=(HY3.out.1.set 0 (.int .i64 (-1))).set 1 (.int .i64 n)
   refine bodyPost_ret (res_row_tmp rfl _ _ Y _ _ _ _ rfl hblk rfl rfl (by kernel_rfl)) rfl ?_
   exact ⟨rfl,HY3.out.2.trans ((((Only.refl Y _).setCell (p:=⟨Y,0,none⟩) rfl _).setCell (p:=⟨Y,1,none⟩) rfl _).old (by have:=HW.out.2.2.1;omega) HY3.out.2.size)⟩
 have t1:(k == 1)=false:=by simpa using k1
 by_cases k5:k=5
 · subst k5
   have hl:=hk4 (.inr rfl)
   have hr2:=hrow.resolve_left (by omega)
   clear hrow
   obtain ⟨b,o,rfl,hrow⟩:=hr2
   obtain ⟨ty0,k0,n0,nm0,xs0,cs0,ts0,es0,rfl⟩:∃ ty0 k0 n0 nm0 xs0 cs0 ts0 es0,xs=[.mk ty0 k0 n0 nm0 xs0 cs0 ts0 es0]:=by
    match xs,hl with
    | [.mk ty0 k0 n0 nm0 xs0 cs0 ts0 es0],_=>exact ⟨_,_,_,_,_,_,_,_,rfl⟩
   have h0:=fmL_at hxs 0 (by simp)
   simp only [List.getElem_cons_zero] at h0
   unfold RowIn at hrow
   obtain ⟨⟨hty0,us0,hc0,hin0⟩,-⟩:=hrow
   simp only [Nd.ty] at hty0
   subst hty0
   have h01:=h0.2
   unfold fmN at h01
   obtain ⟨⟨-,-,hkn0,-⟩,-⟩:=h01
   unfold NdIn at hin0
   obtain ⟨-,-,hn64,-,vx0,vc0,vt0,ve1,rfl,-⟩:=hin0
   have g0:=kk _ _ _ (hc0 0 (.int .i64 k0) rfl)
   have g1:=kk _ _ _ (hc0 1 (.int .i64 n0) rfl)
   simp only [Nat.add_zero] at g0
   by_cases j1:k0=1
   · subst j1
     have e:simN K.E (.mk .E 5 n nm [.mk .E 1 n0 nm0 xs0 cs0 ts0 es0] [] [] [])=some (-1,-n0):=rfl
     rw [e]
     have hneg:=neg_w9 (hkn0 rfl) hn64
     simp only [List.length_cons,List.length_nil] at g0 g1 hlc x3 ⊢
     clear e hw hxs hk4 hk1 hk2 kk h0 hc0 hkn0 hn64 hl h2 h hsim
     have HWa:=HW.out.1
     simp only [List.length_cons,List.length_nil] at HWa
     have HWb:=Lib.hid HWa
     clear HWa
     go_enter Tryz.func149,Tryz.ntmps149
     go_upto_block 0 with fail
     rw [HWb.out,HW.out.2.1,HW.out.2.2.1,HW.out.2.2.2]
     go_wp2_with (first | (go_at_call 167;(with_reducible refine (HN _ _).mono ?_);rintro e w2 ⟨rfl,hb3⟩;have HY3:=Lib.hid (And.intro (HY.out.next hb3) (HB2.out.trans (hb3.mono HB2.out.size)));have yc:=HY3.out.1.cell;have yf:=HY3.out.1.free;clear hb3) | fail)
     have hblk:Blk _ Y #[.int .i64 (-1),.int .i64 (-n0)] 38:=(HY3.out.1.set 0 (.int .i64 (-1))).set 1 (.int .i64 (-n0))
     refine bodyPost_ret (res_row_tmp rfl _ _ Y _ _ _ _ rfl hblk rfl rfl (by kernel_rfl)) rfl ?_
     exact ⟨rfl,HY3.out.2.trans ((((Only.refl Y _).setCell (p:=⟨Y,0,none⟩) rfl _).setCell (p:=⟨Y,1,none⟩) rfl _).old (by have:=HW.out.2.2.1;omega) HY3.out.2.size)⟩
   · have u1:(k0 == 1)=false:=by simpa using j1
     have e:simN K.E (.mk .E 5 n nm [.mk .E k0 n0 nm0 xs0 cs0 ts0 es0] [] [] [])=none:=by rw [hsim];unfold conK kindN;simp [j1,simK]
     rw [e]
     have yc:=HY.out.cell
     have yf:=HY.out.free
     simp only [List.length_cons,List.length_nil] at g0 g1 hlc x3 ⊢
     clear e hw hxs hk4 hk1 hk2 kk h0 hc0 hkn0 hn64 hl j1 h2 h hsim
     have HWa:=HW.out.1
     simp only [List.length_cons,List.length_nil] at HWa
     have HWb:=Lib.hid HWa
     clear HWa
     go_enter Tryz.func149,Tryz.ntmps149
     go_upto_block 0 with fail
     rw [HWb.out,HW.out.2.1,HW.out.2.2.1,HW.out.2.2.2]
     go_wp2_with fail
     have hblk:Blk _ Y #[.int .i64 0,.int .i64 0] 38:=(HY.out.set 0 (.int .i64 0)).set 1 (.int .i64 0)
     refine bodyPost_ret (res_row_tmp rfl _ _ Y _ _ _ _ rfl hblk rfl rfl (by kernel_rfl)) rfl ?_
     exact ⟨rfl,HB2.out.trans ((((Only.refl Y _).setCell (p:=⟨Y,0,none⟩) rfl _).setCell (p:=⟨Y,1,none⟩) rfl _).old (by have:=HW.out.2.2.1;omega) HB2.out.size)⟩
 have t5:(k == 5)=false:=by simpa using k5
 have hcn:conK k n xs=none:=by cases xs <;> simp [conK,k1,k5]
 have yc:=HY.out.cell
 have yf:=HY.out.free
 by_cases k2:k=2
 · subst k2
   have e:simN K.E (.mk .E 2 n nm xs [] [] [])=some ((K.E.pl nm:Int),0):=by rw [hsim,hcn];rfl
   rw [e]
   obtain ⟨ve,hm,he⟩:=h2.drew hk
   have hl:=hm.look hk nm hnm
   have c0:W2.cell? ⟨K.M,0,none⟩=some (.map (some K.G)):=hm.mach.cell 0
   obtain ⟨PL,hPL⟩:∃ x:Nat,K.E.pl nm=x:=⟨_,rfl⟩
   rw [hPL] at hl ⊢
   clear e hrow hw hxs hk4 hk1 hk2 kk h2 h hsim hcn hm he hPL k1 k5
   go_enter Tryz.func149,Tryz.ntmps149
   go_upto_block 0 with fail
   rw [HW.out.1,HW.out.2.1,HW.out.2.2.1,HW.out.2.2.2]
   go_upto_region 6 with fail
   go_region
   all_goals
    go_wp2_with fail
    have hblk:Blk (((W2.setCell ⟨Y,0,none⟩ (.int .i64 (PL:Int))).setCell ⟨Y,1,none⟩ (.int .i64 0)).drew) Y #[.int .i64 (PL:Int),.int .i64 0] 38:=(HY.out.set 0 (.int .i64 (PL:Int))).set 1 (.int .i64 0)
    refine bodyPost_ret (res_row_tmp rfl _ _ Y _ _ _ _ rfl hblk rfl rfl (by kernel_rfl)) rfl ?_
    exact ⟨rfl,(HB2.out.trans ((((Only.refl Y _).setCell (p:=⟨Y,0,none⟩) rfl _).setCell (p:=⟨Y,1,none⟩) rfl _).old (by have:=HW.out.2.2.1;omega) HB2.out.size)).drew⟩
 · have t2:(k == 2)=false:=by simpa using k2
   have e:simN K.E (.mk .E k n nm xs [] [] [])=none:=by rw [hsim,hcn];simp [simK,k2]
   rw [e]
   clear e hrow hw hxs hk4 hk1 hk2 k1 k5 k2 kk h2 h hsim hcn
   go_enter Tryz.func149,Tryz.ntmps149
   go_upto_block 0 with fail
   rw [HW.out.1,HW.out.2.1,HW.out.2.2.1,HW.out.2.2.2]
   go_wp2_with fail
   have hblk:Blk _ Y #[.int .i64 0,.int .i64 0] 38:=(HY.out.set 0 (.int .i64 0)).set 1 (.int .i64 0)
   refine bodyPost_ret (res_row_tmp rfl _ _ Y _ _ _ _ rfl hblk rfl rfl (by kernel_rfl)) rfl ?_
   exact ⟨rfl,HB2.out.trans ((((Only.refl Y _).setCell (p:=⟨Y,0,none⟩) rfl _).setCell (p:=⟨Y,1,none⟩) rfl _).old (by have:=HW.out.2.2.1;omega) HB2.out.size)⟩
theorem eitem_at {w0 w:World} {xs:List Nd} {b0 o0:Nat} (hr:RowIn w0 .E xs b0 o0) (hb:Below w0.heap.size w0 w) (i:Nat) (hi:i < xs.length):∃ k n s a len c,NdIn w0 xs[i] [.int .i64 k,.int .i64 n,.string s,.slice a len c]∧w.cell? ⟨b0,o0+i * 4,none⟩=some (.int .i64 k)∧w.cell? ⟨b0,o0+i * 4+1,none⟩=some (.int .i64 n)∧w.cell? ⟨b0,o0+i * 4+2,none⟩=some (.string s)∧w.cell? ⟨b0,o0+i * 4+3,none⟩=some (.slice a len c):=by
 obtain ⟨hty,vs,hc,hnd⟩:=RowIn.at xs b0 o0 i hi hr
 have hl:=hnd.len
 rw [hty] at hl
 obtain ⟨v0,v1,v2,v3,rfl⟩:∃ a b c d,vs=[a,b,c,d]:=by
  match vs,hl with
  | [a,b,c,d],_=>exact ⟨_,_,_,_,rfl⟩
 obtain ⟨k,n,s,a,len,c,rfl,rfl,rfl,rfl⟩:=NdIn.formE hty hnd
 have kk:=keeps_below hb
 exact ⟨k,n,s,a,len,c,hnd,kk _ _ _ (hc 0 _ rfl),kk _ _ _ (hc 1 _ rfl),kk _ _ _ (hc 2 _ rfl),kk _ _ _ (hc 3 _ rfl)⟩
def tabK (i:Nat):Int:=if i < 3 then 0 else kindK i
def TabK (w0:World):Prop:=∀ i,i < 11→w0.cell? ⟨1,i,none⟩=some (.int .i64 (tabK i))
def OpC (K:Le) (w0:World) (x:Nd):Prop:=∀ (us:List Value) (q d:Int) (s:Lw) (r:Option Nat) (w:World),NdIn w0 x us→Below w0.heap.size w0 w→La K w s r→Few s (4 * szN x)→0≤d→d+szN x≤1099511627776 →
 Calls Tryz.prog 182 #[.pointer (some ⟨K.M,0,none⟩),.agg us.toArray,.int .i64 q,.int .i64 d] w (Lows K (.tuple #[opV (opN K.E x q d s).1,.int .i64 (opN K.E x q d s).2.1]) r w (opN K.E x q d s).2.2)
def IntoC (K:Le) (w0:World) (x:Nd):Prop:=∀ (us:List Value) (dst f t d:Int) (s:Lw) (r:Option Nat) (w:World),NdIn w0 x us→simN K.E x=none→Below w0.heap.size w0 w→La K w s r→Few s (4 * szL (argsN x)+2)→0≤d→d+szN x≤1099511627776 →
 Calls Tryz.prog 152 #[.pointer (some ⟨K.M,0,none⟩),.agg us.toArray,.int .i64 dst,.int .i64 f,.int .i64 t,.int .i64 d] w (Lows K unitT r w (intoN K.E x dst f t d s))
abbrev twoV (l:List (Int × Int)):Value:=.agg #[.int .i64 (op0 l).1,.int .i64 (op0 l).2,.int .i64 (op1 l).1,.int .i64 (op1 l).2]
def OpsC (K:Le) (w0:World) (l:List Nd):Prop:=∀ (v:Value) (q d:Int) (s:Lw) (r:Option Nat) (w:World),SlIn w0 .E l v→Below w0.heap.size w0 w→La K w s r→Few s (4 * szL l)→0≤d→d+szL l≤1099511627776 →
 Calls Tryz.prog 153 #[.pointer (some ⟨K.M,0,none⟩),v,.int .i64 q,.int .i64 d] w (Lows K (.tuple #[twoV (opsL K.E l q d s).1,.int .i64 (opsL K.E l q d s).2.1]) r w (opsL K.E l q d s).2.2)
structure OpsI (K:Le) (r:Option Nat) (w:World) (l:List Nd) (q d:Int) (s:Lw) (R A:Nat) (i:Nat) (os:List (Int × Int)) (q1 d1:Int) (s1:Lw) (r1:Option Nat) (wr:World):Prop where
 len:os.length=i
 res:opsL K.E l q d s=(os ++ (opsL K.E (l.drop i) q1 d1 s1).1,(opsL K.E (l.drop i) q1 d1 s1).2)
 ta:Tl K wr r1 A #[.int .i64 (op0 os).1,.int .i64 (op0 os).2,.int .i64 (op1 os).1,.int .i64 (op1 os).2] 219
 tr:Tl K wr r1 R #[.int .i64 0,.int .i64 0,.int .i64 0,.int .i64 0] 219
 kr:Kl K r r1 w wr
 run:La K wr s1 r1
 few:Few s1 (4 * szL (l.drop i))
 d0:0≤d1
 d1b:d1+szL (l.drop i)≤1099511627776
 ga:w.heap.size≤A
 gr:w.heap.size≤R
 ne:R ≠ A
theorem pair_cells {w:World} {A:Nat} {a b c d:Value} {t:TypeId} (h:Blk w A #[a,b,c,d] t) {i:Nat} (hi:(i:Int) < 2):∃ z0,w.cell? ⟨A,i * 2,none⟩=some z0∧∃ z1,w.cell? ⟨A,i * 2+1,none⟩=some z1:=by
 obtain rfl | rfl:i=0 ∨ i=1:=by omega
 · exact ⟨a,h.cell 0,b,h.cell 1⟩
 · exact ⟨c,h.cell 2,d,h.cell 3⟩
theorem op_set {os:List (Int × Int)} {i:Nat} (h:os.length=i) (hi:i < 2) {oa ob:Int}:((#[.int .i64 (op0 os).1,.int .i64 (op0 os).2,.int .i64 (op1 os).1,.int .i64 (op1 os).2]:Array Value).setIfInBounds (i * 2) (.int .i64 oa)).setIfInBounds (i * 2+1) (.int .i64 ob)=#[.int .i64 (op0 (os ++ [(oa,ob)])).1,.int .i64 (op0 (os ++ [(oa,ob)])).2,.int .i64 (op1 (os ++ [(oa,ob)])).1,.int .i64 (op1 (os ++ [(oa,ob)])).2]:=by
 obtain rfl | rfl:i=0 ∨ i=1:=by omega
 · obtain rfl:=List.eq_nil_of_length_eq_zero h
   rfl
 · match os,h with
   | [p],_=>rfl
set_option maxRecDepth 100000 in
set_option maxHeartbeats 4000000 in
theorem ops_of (K:Le) (hk:K.ok) (w0:World) (hH:w0.heap.size≤K.H0) (l:List Nd) (hlen:l.length≤2) (hch:∀ i (hi:i < l.length),OpC K w0 l[i]):OpsC K w0 l:=by
 intro v q d s r w hin hw h hf hd0 hd1
 obtain ⟨a,c,rfl,hlc,hcm,hrow⟩:=hin
 have hr0:=Tl.new h #[.int .i64 0,.int .i64 0,.int .i64 0,.int .i64 0] 219
 have h1:=h.alloc hk (.cells #[.int .i64 0,.int .i64 0,.int .i64 0,.int .i64 0] 219)
 have hkr:Kl K r r w (w.alloc (.cells #[.int .i64 0,.int .i64 0,.int .i64 0,.int .i64 0] 219)):=(Kl.refl K r w).alloc _
 obtain ⟨W1,hW1⟩:∃ W1,w.alloc (.cells #[.int .i64 0,.int .i64 0,.int .i64 0,.int .i64 0] 219)=W1:=⟨_,rfl⟩
 rw [hW1] at hr0 h1 hkr
 obtain ⟨R,hR⟩:∃ R,w.heap.size=R:=⟨_,rfl⟩
 rw [hR] at hr0
 have HN:=fun w=>cnum_any 0 w
 have HP:=Lib.hid (And.intro hr0 (And.intro h1 hkr))
 have HH:=Lib.hid (And.intro h (And.intro hw (And.intro hf (And.intro hd0 (And.intro hd1 (And.intro hch (And.intro hR hlen)))))))
 have HW1:=Lib.hid hW1
 have HR:=Lib.hid hR
 have HROW:=Lib.hid hrow
 have hbig:(l.length:Int)≤2:=by omega
 clear hr0 h1 hkr hW1 hR h hw hf hd0 hd1 hch hrow hlen hcm hlc
 go_enter Tryz.func153,Tryz.ntmps153
 go_upto_region 1 with fail
 rw [HW1.out,HR.out]
 go_upto_region 2 with (first | (go_at_call 167;(with_reducible refine (HN _).mono ?_);rintro e w2 ⟨rfl,hb2⟩;have HP2:=Lib.hid (And.intro (HP.out.1.next hb2) (And.intro (HP.out.2.1.next hk hb2) (HP.out.2.2.trans (Kl.below hb2))));clear HP hb2;have HP:=HP2;clear HP2) | fail)
 have hta:=Tl.new HP.out.2.1 #[.int .i64 (-1),.int .i64 0,.int .i64 (-1),.int .i64 0] 219
 have hal:Below w2.heap.size w2 (w2.alloc (.cells #[.int .i64 (-1),.int .i64 0,.int .i64 (-1),.int .i64 0] 219)):=(Below.refl _ w2).alloc (Nat.le_refl _) _
 have hIa:=HP.out.2.1.next hk hal
 have hIr:=HP.out.1.next hal
 have hIk:=HP.out.2.2.trans (Kl.below hal)
 obtain ⟨WA,hWA⟩:∃ W,w2.alloc (.cells #[.int .i64 (-1),.int .i64 0,.int .i64 (-1),.int .i64 0] 219)=W:=⟨_,rfl⟩
 obtain ⟨A,hA⟩:∃ A,w2.heap.size=A:=⟨_,rfl⟩
 rw [hWA] at hta hIa hIr hIk
 rw [hA] at hta
 rw [hWA,hA]
 have hI:OpsI K r w l q d s R A 0 [] q d s r WA:=⟨rfl,by simp,hta,hIr,hIk,hIa,by simpa using HH.out.2.2.1,HH.out.2.2.2.1,by simpa using HH.out.2.2.2.2.1,by rw [← hA];exact HP.out.2.2.size,by rw [HR.out];exact Nat.le_refl _,by have:=HP.out.1.blk.lt;omega⟩
 have HI:=Lib.hid hI
 clear hta hal hIa hIr hIk hWA hA hI HP
 go_wp2_with fail
 go_loopw [2,3,18] (fun q' d' x wr=>∃ (i:Nat) (os:List (Int × Int)) (q1 d1:Int) (s1:Lw) (r1:Option Nat),q'=.int .i64 q1∧d'=.int .i64 d1∧x=.int .i64 i∧i≤l.length∧OpsI K r w l q d s R A i os q1 d1 s1 r1 wr) (fun _ _ x _=>l.length - (intOf x).toNat)
 case atStart=>exact ⟨0,[],q,d,s,r,rfl,rfl,rfl,by omega,HI.out⟩
 case round =>
  obtain ⟨i,os,q1,d1,s1,r1,rfl,rfl,rfl,hi,hI⟩:=hrel
  have HIN:=Lib.hid hI;clear hI HI
  by_cases hlt:i < l.length
  · have hbi:(i:Int)+1≤9223372036854775807:=by omega
    have hold:Below w0.heap.size w0 wr:=HH.out.2.1.trans ((HIN.out.kr.old hk HH.out.1).mono hH)
    obtain ⟨b0,o0,rfl,hrw⟩:=HROW.out.resolve_left (by omega)
    obtain ⟨fk,fn,fs,fa,fl,fc,hnd,k0,k1,k2,k3⟩:=eitem_at hrw hold i hlt
    have hdrop:l.drop i=l[i] :: l.drop (i+1):=List.drop_eq_getElem_cons hlt
    have hsz:szL (l.drop i)=szN l[i]+szL (l.drop (i+1)):=by rw [hdrop,szL]
    have hfew:=HIN.out.few
    have hd1b:=HIN.out.d1b
    rw [hsz] at hfew hd1b
    have hal:Below wr.heap.size wr (wr.alloc (.cells #[.int .i64 fk,.int .i64 fn,.string fs,.slice fa fl fc] 142)):=(Below.refl _ wr).alloc (Nat.le_refl _) _
    have hx:=args_sz l[i]
    have HC:=Lib.hid (HH.out.2.2.2.2.2.1 i hlt _ q1 d1 s1 r1 _ hnd (hold.trans (hal.mono hold.size)) (HIN.out.run.next hk hal) ⟨by have:=hfew.p;omega,by have:=hfew.e;omega⟩ HIN.out.d0 (by omega))
    have hgr:=opN_gr K.E l[i] q1 d1 s1
    have hres:=HIN.out.res
    rw [hdrop,opsL] at hres
    obtain ⟨⟨⟨oa,ob⟩,q2,s2⟩,hop⟩:∃ p,opN K.E l[i] q1 d1 s1=p:=⟨_,rfl⟩
    rw [hop] at hgr hres
    simp only [hop] at HC hgr hres
    have hfew2:Few s2 (4 * szL (l.drop (i+1))):=⟨by have:=hfew.p;have:=hgr.p1;omega,by have:=hfew.e;have:=hgr.e1;omega⟩
    have hi2:(i:Int) < 2:=by omega
    have hta:=HIN.out.ta.next hal
    have htr:=HIN.out.tr.next hal
    have hkr:=HIN.out.kr.trans (Kl.below hal)
    have hlen:=HIN.out.len
    have HIS:=Lib.hid (And.intro hta (And.intro htr (And.intro hkr (And.intro HIN.out.ga (And.intro HIN.out.gr (And.intro HIN.out.ne (And.intro hlen (And.intro hres (And.intro hfew2 (And.intro HIN.out.d0 (And.intro hd1b (And.intro hx hsz))))))))))))
    clear hta htr hkr hlen hres hfew2 hd1b hx hsz hfew hgr hop hdrop hal hold hnd hrw
    clear HIN
    have hdb:d1+1≤9223372036854775807:=by have:=HIS.out.2.2.2.2.2.2.2.2.2.2.1;have:=HIS.out.2.2.2.2.2.2.2.2.2.2.2.1;omega
    have hdb0:-9223372036854775808≤d1+1:=by have:=HIS.out.2.2.2.2.2.2.2.2.2.1;omega
    obtain ⟨bt,hnt⟩:∃ b,decide ((K.E.nv:Int)≤oa)=b:=⟨_,rfl⟩
    cases bt
    · have hnx:nextD K.E (oa,ob) d1=d1:=by unfold nextD;rw [if_neg (by simpa using hnt)]
      have HNX:=Lib.hid hnx;clear hnx
      go_wp2_with (first | (go_at_call 182;(with_reducible refine HC.out.mono ?_);rintro e w3 ⟨rfl,r2,hk2,h2⟩;have hta3:=HIS.out.1.kr hk hk2;obtain ⟨z0,y0,z1,y1⟩:=pair_cells hta3.blk hi2;have f0:=hta3.blk.free (i * 2);have f1:=hta3.blk.free (i * 2+1);have ho:Only A w3 ((w3.setCell ⟨A,i * 2,none⟩ (.int .i64 oa)).setCell ⟨A,i * 2+1,none⟩ (.int .i64 ob)):=((Only.refl A w3).setCell (p:=⟨A,i * 2,none⟩) rfl _).setCell (p:=⟨A,i * 2+1,none⟩) rfl _;have h4:=h2.tmp hk hta3.base hta3.row ho;have HT:=Lib.hid (isTemp_any K hk s2 r2 oa ob _ h4);have H4:=Lib.hid (And.intro hk2 (And.intro h4 (And.intro ho hta3)));clear hk2 h2 hta3 ho h4) | (go_at_call 183;(with_reducible refine HT.out.mono ?_);rintro e w5 ⟨rfl,hb5⟩;have HB5:=Lib.hid hb5;clear hb5) | fail)
      obtain ⟨hta,htr,hkr,hga,hgr,hne,hlen,hres,hfew2,hd0,hd1b,hx,hsz⟩:=HIS.out
      obtain ⟨hk2,h4,ho,hta3⟩:=H4.out
      have hta5:=((hta3.set (i * 2) (.int .i64 oa)).set (i * 2+1) (.int .i64 ob)).next HB5.out
      rw [op_set hlen (by omega)] at hta5
      have htr3:=htr.kr hk hk2
      have htr5:Tl K _ r2 R #[.int .i64 0,.int .i64 0,.int .i64 0,.int .i64 0] 219:=Tl.next ⟨(htr3.blk.other (a:=⟨A,i * 2,none⟩) hne _).other (a:=⟨A,i * 2+1,none⟩) hne _,htr3.base,htr3.row⟩ HB5.out
      have HNEW:OpsI K r w l q d s R A (i+1) (os ++ [(oa,ob)]) q2 (d1) s2 r2 w5 :=
       { len:=by rw [List.length_append,hlen];rfl
         res:=by rw [hres,HNX.out,List.append_assoc];rfl
         ta:=hta5
         tr:=htr5
         kr:=((hkr.trans hk2).one ho hga).trans (Kl.below HB5.out)
         run:=h4.next hk HB5.out
         few:=hfew2
         d0:=by omega
         d1b:=by omega
         ga:=hga
         gr:=hgr
         ne:=hne }
      have HNEW2:=Lib.hid HNEW
      clear HNEW hta htr hkr hga hgr hne hlen hres hfew2 hd0 hd1b hx hsz hk2 h4 ho hta3 hta5 htr3 htr5
      clear y0 y1 f0 f1 k0 k1 k2 k3 HH HIS H4
      go_roundw
      case rel=>exact ⟨i+1,_,q2,d1,s2,r2,rfl,rfl,by go_num,by omega,HNEW2.out⟩
      case measure=>simp [intOf];omega
    · have hnx:nextD K.E (oa,ob) d1=d1+1:=by unfold nextD;rw [if_pos (by simpa using hnt)]
      have HNX:=Lib.hid hnx;clear hnx
      go_wp2_with (first | (go_at_call 182;(with_reducible refine HC.out.mono ?_);rintro e w3 ⟨rfl,r2,hk2,h2⟩;have hta3:=HIS.out.1.kr hk hk2;obtain ⟨z0,y0,z1,y1⟩:=pair_cells hta3.blk hi2;have f0:=hta3.blk.free (i * 2);have f1:=hta3.blk.free (i * 2+1);have ho:Only A w3 ((w3.setCell ⟨A,i * 2,none⟩ (.int .i64 oa)).setCell ⟨A,i * 2+1,none⟩ (.int .i64 ob)):=((Only.refl A w3).setCell (p:=⟨A,i * 2,none⟩) rfl _).setCell (p:=⟨A,i * 2+1,none⟩) rfl _;have h4:=h2.tmp hk hta3.base hta3.row ho;have HT:=Lib.hid (isTemp_any K hk s2 r2 oa ob _ h4);have H4:=Lib.hid (And.intro hk2 (And.intro h4 (And.intro ho hta3)));clear hk2 h2 hta3 ho h4) | (go_at_call 183;(with_reducible refine HT.out.mono ?_);rintro e w5 ⟨rfl,hb5⟩;have HB5:=Lib.hid hb5;clear hb5) | fail)
      obtain ⟨hta,htr,hkr,hga,hgr,hne,hlen,hres,hfew2,hd0,hd1b,hx,hsz⟩:=HIS.out
      obtain ⟨hk2,h4,ho,hta3⟩:=H4.out
      have hta5:=((hta3.set (i * 2) (.int .i64 oa)).set (i * 2+1) (.int .i64 ob)).next HB5.out
      rw [op_set hlen (by omega)] at hta5
      have htr3:=htr.kr hk hk2
      have htr5:Tl K _ r2 R #[.int .i64 0,.int .i64 0,.int .i64 0,.int .i64 0] 219:=Tl.next ⟨(htr3.blk.other (a:=⟨A,i * 2,none⟩) hne _).other (a:=⟨A,i * 2+1,none⟩) hne _,htr3.base,htr3.row⟩ HB5.out
      have HNEW:OpsI K r w l q d s R A (i+1) (os ++ [(oa,ob)]) q2 (d1+1) s2 r2 w5 :=
       { len:=by rw [List.length_append,hlen];rfl
         res:=by rw [hres,HNX.out,List.append_assoc];rfl
         ta:=hta5
         tr:=htr5
         kr:=((hkr.trans hk2).one ho hga).trans (Kl.below HB5.out)
         run:=h4.next hk HB5.out
         few:=hfew2
         d0:=by omega
         d1b:=by omega
         ga:=hga
         gr:=hgr
         ne:=hne }
      have HNEW2:=Lib.hid HNEW
      clear HNEW hta htr hkr hga hgr hne hlen hres hfew2 hd0 hd1b hx hsz hk2 h4 ho hta3 hta5 htr3 htr5
      clear y0 y1 f0 f1 k0 k1 k2 k3 HH HIS H4
      go_roundw
      case rel=>exact ⟨i+1,_,q2,d1+1,s2,r2,rfl,rfl,by go_num,by omega,HNEW2.out⟩
      case measure=>simp [intOf];omega
  · obtain rfl:i=l.length:=by omega
    have hres:=HIN.out.res
    rw [List.drop_length,opsL,List.append_nil] at hres
    have xa:=HIN.out.ta.blk.cell
    have xr:=HIN.out.tr.blk.cell
    have xf:=HIN.out.tr.blk.free
    rw [hres]
    clear hi hbig hlt
    go_wp2_with fail
    have ht4:=HIN.out.tr.blk
    have h4a:=(((ht4.set 0 (.int .i64 (op0 os).1)).set 1 (.int .i64 (op0 os).2)).set 2 (.int .i64 (op1 os).1)).set 3 (.int .i64 (op1 os).2)
    have h4b:Blk _ R #[.int .i64 (op0 os).1,.int .i64 (op0 os).2,.int .i64 (op1 os).1,.int .i64 (op1 os).2] 219:=h4a
    have ho:Only R wr ((((wr.setCell ⟨R,0,none⟩ (.int .i64 (op0 os).1)).setCell ⟨R,1,none⟩ (.int .i64 (op0 os).2)).setCell ⟨R,2,none⟩ (.int .i64 (op1 os).1)).setCell ⟨R,3,none⟩ (.int .i64 (op1 os).2)):=((((Only.refl R wr).setCell (p:=⟨R,0,none⟩) rfl _).setCell (p:=⟨R,1,none⟩) rfl _).setCell (p:=⟨R,2,none⟩) rfl _).setCell (p:=⟨R,3,none⟩) rfl _
    refine bodyPost_ret (res_row_tmp rfl _ _ R _ _ _ _ rfl h4b rfl rfl (by kernel_rfl)) rfl ?_
    exact ⟨rfl,r1,HIN.out.kr.one ho HIN.out.gr,HIN.out.run.tmp hk HIN.out.tr.base HIN.out.tr.row ho⟩
set_option maxRecDepth 100000 in
set_option maxHeartbeats 4000000 in
theorem operand_of (K:Le) (hk:K.ok) (w0:World) (hH:w0.heap.size≤K.H0) (x:Nd) (hty:x.ty=.E) (hok:fmN x) (hinto:IntoC K w0 x):OpC K w0 x:=by
 intro us q d s r w hin hw h hf hd0 hd1
 have hin0:=hin
 obtain ⟨k,n,nm,a,len,c,rfl⟩:∃ k n nm a len c,us=[.int .i64 k,.int .i64 n,.string nm,.slice a len c]:=by
  have hl:=hin.len
  rw [hty] at hl
  obtain ⟨v0,v1,v2,v3,rfl⟩:∃ a b c d,us=[a,b,c,d]:=by
   match us,hl with
   | [a,b,c,d],_=>exact ⟨_,_,_,_,rfl⟩
  obtain ⟨k,n,s,a,len,c,rfl,rfl,rfl,rfl⟩:=NdIn.formE hty hin
  exact ⟨k,n,s,a,len,c,rfl⟩
 change Calls _ _ #[_,.agg #[.int .i64 k,.int .i64 n,.string nm,.slice a len c],_,_] w _
 have hx:=args_sz x
 have hX0:=Tl.new h #[.int .i64 k,.int .i64 n,.string nm,.slice a len c] 142
 have h1:=h.alloc hk (.cells #[.int .i64 k,.int .i64 n,.string nm,.slice a len c] 142)
 have hkr:Kl K r r w (w.alloc (.cells #[.int .i64 k,.int .i64 n,.string nm,.slice a len c] 142)):=(Kl.refl K r w).alloc _
 obtain ⟨W1,hW1⟩:∃ W1,w.alloc (.cells #[.int .i64 k,.int .i64 n,.string nm,.slice a len c] 142)=W1:=⟨_,rfl⟩
 rw [hW1] at hX0 h1 hkr
 obtain ⟨X,hX⟩:∃ X,w.heap.size=X:=⟨_,rfl⟩
 rw [hX] at hX0
 have hs1:X+1=W1.heap.size:=by rw [← hW1,World.size_alloc,hX]
 have hal:Below W1.heap.size W1 (W1.alloc (.cells #[.int .i64 0,.int .i64 0] 38)):=(Below.refl _ W1).alloc (Nat.le_refl _) _
 have hR0:=Tl.new h1 #[.int .i64 0,.int .i64 0] 38
 have hX1:=hX0.next hal
 have h2:=h1.next hk hal
 have hkr2:=hkr.trans (Kl.below (r:=r) hal)
 obtain ⟨W2,hW2⟩:∃ W2,W1.alloc (.cells #[.int .i64 0,.int .i64 0] 38)=W2:=⟨_,rfl⟩
 rw [hW2] at hR0 hX1 h2 hkr2
 obtain ⟨R,hR⟩:∃ R,W1.heap.size=R:=⟨_,rfl⟩
 rw [hR] at hR0 hs1
 have hne:X ≠ R:=by omega
 have hgR:w.heap.size≤R:=by omega
 have hold2:Below w0.heap.size w0 W2:=hw.trans ((hkr2.old hk h).mono hH)
 have HPL:=Lib.hid (plain_any K hk w0 x _ hty hok hin0 s r W2 hold2 h2)
 have x0:=hX1.blk.cell
 have HH:=Lib.hid (And.intro h (And.intro hw (And.intro hf (And.intro hd0 (And.intro hd1 (And.intro hinto (And.intro hin0 hx)))))))
 have HB:=Lib.hid (And.intro hX1 (And.intro hR0 (And.intro h2 (And.intro hkr2 (And.intro hne hgR)))))
 have HE:=Lib.hid (And.intro hW1 (And.intro hX (And.intro hW2 hs1)))
 clear hX0 h1 hkr hW1 hX hal hR0 hX1 h2 hkr2 hW2 hR hs1 hne hgR hold2 hin hin0 hw h hf hd0 hd1 hinto hx
 obtain ⟨so,hso⟩:∃ o,simN K.E x=o:=⟨_,rfl⟩
 rw [hso] at HPL
 cases so with
 | some o =>
   obtain ⟨oa,ob⟩:=o
   rw [opN_some hso]
   unfold plainV at HPL
   go_enter Tryz.func182,Tryz.ntmps182
   go_upto_region 1 with fail
   rw [HE.out.1,HE.out.2.1,HE.out.2.2.1,HE.out.2.2.2]
   go_wp2_with (first | (go_at_call 149;(with_reducible refine HPL.out.mono ?_);rintro e w3 ⟨rfl,hb3⟩;have HB3:=Lib.hid hb3;have xr:=((HB.out.2.1.next hb3).blk.alloc (.cells #[.int .i64 oa,.int .i64 ob] 38)).cell;have xf:=((HB.out.2.1.next hb3).blk.alloc (.cells #[.int .i64 oa,.int .i64 ob] 38)).free;clear hb3 x0) | fail)
   have hb4:Below W2.heap.size W2 (w3.alloc (.cells #[.int .i64 oa,.int .i64 ob] 38)):=HB3.out.alloc HB3.out.size _
   have hR4:=HB.out.2.1.next hb4
   have hbl:=(hR4.blk.set 0 (.int .i64 oa)).set 1 (.int .i64 ob)
   have hbl2:Blk _ R #[.int .i64 oa,.int .i64 ob] 38:=hbl
   have ho:Only R (w3.alloc (.cells #[.int .i64 oa,.int .i64 ob] 38)) (((w3.alloc (.cells #[.int .i64 oa,.int .i64 ob] 38)).setCell ⟨R,0,none⟩ (.int .i64 oa)).setCell ⟨R,1,none⟩ (.int .i64 ob)):=((Only.refl R _).setCell (p:=⟨R,0,none⟩) rfl _).setCell (p:=⟨R,1,none⟩) rfl _
   refine bodyPost_ret (res_row_tmp rfl _ _ R _ _ _ _ rfl hbl2 rfl rfl (by kernel_rfl)) rfl ?_
   exact ⟨rfl,r,(HB.out.2.2.2.1.trans (Kl.below hb4)).one ho HB.out.2.2.2.2.2,(HB.out.2.2.1.next hk hb4).tmp hk hR4.base hR4.row ho⟩
 | none =>
   rw [opN_none hso]
   unfold plainV at HPL
   have hx:=HH.out.2.2.2.2.2.2.2
   have hd1:=HH.out.2.2.2.2.1
   have hfp:=HH.out.2.2.1.p
   have hfe:=HH.out.2.2.1.e
   obtain ⟨CZ,hCZ⟩:∃ n,szN x=n:=⟨_,rfl⟩
   rw [hCZ] at hx hd1 hfp hfe
   have HSZ:=Lib.hid (And.intro hx (And.intro hd1 (And.intro hfp (And.intro hfe hCZ))))
   clear hx hd1 hfp hfe hCZ
   go_enter Tryz.func182,Tryz.ntmps182
   go_upto_region 1 with fail
   rw [HE.out.1,HE.out.2.1,HE.out.2.2.1,HE.out.2.2.2]
   go_upto_region 4 with (first | (go_at_call 149;(with_reducible refine HPL.out.mono ?_);rintro e w3 ⟨rfl,hb3⟩;have HB3:=Lib.hid hb3;clear hb3 x0) | fail)
   have hb4:Below W2.heap.size W2 (w3.alloc (.cells #[.int .i64 0,.int .i64 0] 38)):=HB3.out.alloc HB3.out.size _
   have hR4:=HB.out.2.1.next hb4
   have hX4:=HB.out.1.next hb4
   have h4:=HB.out.2.2.1.next hk hb4
   have hkr4:=HB.out.2.2.2.1.trans (Kl.below hb4)
   obtain ⟨W4,hW4⟩:∃ W,w3.alloc (.cells #[.int .i64 0,.int .i64 0] 38)=W:=⟨_,rfl⟩
   rw [hW4] at hR4 hX4 h4 hkr4
   rw [hW4]
   have HT:=Lib.hid (temporary_any K hk s r d HH.out.2.2.2.1 (by have:=HSZ.out;omega) W4 h4)
   have H4:=Lib.hid (And.intro hR4 (And.intro hX4 hkr4))
   clear hb4 hR4 hX4 h4 hkr4 hW4
   have HF:=Lib.hid (fun r5 w5 (h5:La K w5 (s.temp d) r5)=>show Calls Tryz.prog 37 #[.pointer (some ⟨K.M,0,none⟩)] w5 (Lows K (.int .i64 s.pts) r5 w5 (s.temp d).fresh) from fresh_any K hk (s.temp d) r5 w5 h5 ⟨by have:=HSZ.out;show s.pts+_≤_;omega,by have:=HSZ.out;show s.eds.length+_≤_;omega⟩)
   go_upto_region 5 with (first | (go_at_call 203;(with_reducible refine HT.out.mono ?_);rintro e w5 ⟨rfl,r5,hk5,h5⟩;have H5:=Lib.hid (And.intro hk5 h5);clear hk5 h5) | (go_at_call 37;(with_reducible refine (HF.out _ _ H5.out.2).mono ?_);rintro e w6 ⟨rfl,r6,hk6,h6⟩;have H6:=Lib.hid (And.intro hk6 h6);clear hk6 h6) | fail)
   have hb7:Below w6.heap.size w6 (w6.alloc (.cells #[.int .i64 ((K.E.nv:Int)+d),.int .i64 0] 38)):=(Below.refl _ w6).alloc (Nat.le_refl _) _
   have hT7:=Tl.new H6.out.2 #[.int .i64 ((K.E.nv:Int)+d),.int .i64 0] 38
   have h7:=H6.out.2.next hk hb7
   have hX7:=((H4.out.2.1.kr hk H5.out.1).kr hk H6.out.1).next hb7
   have hR7:=((H4.out.1.kr hk H5.out.1).kr hk H6.out.1).next hb7
   have hkr7:=((H4.out.2.2.trans H5.out.1).trans H6.out.1).trans (Kl.below hb7)
   obtain ⟨W7,hW7⟩:∃ W,w6.alloc (.cells #[.int .i64 ((K.E.nv:Int)+d),.int .i64 0] 38)=W:=⟨_,rfl⟩
   obtain ⟨T,hT⟩:∃ T,w6.heap.size=T:=⟨_,rfl⟩
   rw [hW7] at hT7 h7 hX7 hR7 hkr7
   rw [hT] at hT7
   rw [hW7,hT]
   have hold7:Below w0.heap.size w0 W7:=HH.out.2.1.trans ((hkr7.old hk HH.out.1).mono hH)
   have HI:=Lib.hid (HH.out.2.2.2.2.2.1 _ ((K.E.nv:Int)+d) q s.pts d ((s.temp d).fresh) r6 W7 HH.out.2.2.2.2.2.2.1 hso hold7 h7 ⟨by have:=HSZ.out;show s.pts+1+_≤_;omega,by have:=HSZ.out;show s.eds.length+_≤_;omega⟩ HH.out.2.2.2.1 HH.out.2.2.2.2.1)
   have x7:=hX7.blk.cell
   have t7:=hT7.blk.cell
   have hneR:R ≠ T:=by have:=hR7.blk.lt;have:=((H4.out.1.kr hk H5.out.1).kr hk H6.out.1).blk.lt;omega
   have H7:=Lib.hid (And.intro hR7 (And.intro hT7 (And.intro hkr7 hneR)))
   clear hb7 hT7 h7 hX7 hR7 hkr7 hW7 hT hold7 hneR
   go_wp2_with (first | (go_at_call 152;(with_reducible refine HI.out.mono ?_);rintro e w8 ⟨rfl,r8,hk8,h8⟩;have H8:=Lib.hid (And.intro hk8 h8);have xr:=(H7.out.1.kr hk hk8).blk.cell;have xf:=(H7.out.1.kr hk hk8).blk.free;have xt:=(H7.out.2.1.kr hk hk8).blk.cell;clear hk8 h8 x7 t7) | fail)
   have hR8:=H7.out.1.kr hk H8.out.1
   have hbl:=(hR8.blk.set 0 (.int .i64 ((K.E.nv:Int)+d))).set 1 (.int .i64 0)
   have hbl2:Blk _ R #[.int .i64 ((K.E.nv:Int)+d),.int .i64 0] 38:=hbl
   have ho:Only R w8 ((w8.setCell ⟨R,0,none⟩ (.int .i64 ((K.E.nv:Int)+d))).setCell ⟨R,1,none⟩ (.int .i64 0)):=((Only.refl R _).setCell (p:=⟨R,0,none⟩) rfl _).setCell (p:=⟨R,1,none⟩) rfl _
   refine bodyPost_ret (res_row_tmp rfl _ _ R _ _ _ _ rfl hbl2 rfl rfl (by kernel_rfl)) rfl ?_
   exact ⟨rfl,r8,(H7.out.2.2.1.trans H8.out.1).one ho HB.out.2.2.2.2.2,H8.out.2.tmp hk hR8.base hR8.row ho⟩
end Go.Proofs.YtmohmggnjldddaaGreatDoor
