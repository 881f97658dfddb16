/-
  The machine's holds of a condition: proved is that it is the plain run's; and stepless.
-/
import Derived.Test.YtmohmggnjldddaaGreatDoorQTwalk
import Derived.Test.YtmohmggnjldddaaGreatDoorQRunE
namespace Go.Proofs.YtmohmggnjldddaaGreatDoor
open Go Go.RowKit
set_option maxRecDepth 100000 in
set_option maxHeartbeats 4000000 in
theorem ofb_0 (op:Int) (h0:op < 1 ∨ 6 < op) (w:World) :
    Calls Tryz.prog 137 #[.int .i64 op] w fun e w'=>e=.returned (.agg #[.func (.func 193) #[] #[],.int .i64 0])∧Below w.heap.size w w':=by
 have HA:=fun w=>all_any w
 have hsf:=fun (a:Addr) (k:Nat) (w:World)=>run_store Tryz.prog w a (.func (.func k) #[] #[]) .plain rfl
 have HI:∀ w,(Instr.index 238 (Value.agg compsV) (Value.int IntKind.i64 0)).run Tryz.prog w=.ok (.agg #[.func (.func 193) #[] #[],.int .i64 0]) w:=fun w=>by rfl
 rcases h0 with h0 | h0
 · go_enter Tryz.func137,Tryz.ntmps137
   go_wp2_with (first | (go_at_call 173;(with_reducible refine (HA _).mono ?_);rintro e w' ⟨rfl,t,rfl⟩) | fail)
   refine bodyPost_ret (results_cell_row rfl _ _ w.heap.size _ #[.func (.func 193) #[] #[],.int .i64 0] _ _ rfl (heap_two w _ _) rfl rfl (by kernel_rfl)) rfl ?_
   exact ⟨rfl,((Below.refl w.heap.size w).alloc (Nat.le_refl _) _).alloc (by simp) _⟩
 · have h1:¬ op < 1:=by omega
   go_enter Tryz.func137,Tryz.ntmps137
   go_wp2_with (first | (go_at_call 173;(with_reducible refine (HA _).mono ?_);rintro e w' ⟨rfl,t,rfl⟩) | fail)
   refine bodyPost_ret (results_cell_row rfl _ _ w.heap.size _ #[.func (.func 193) #[] #[],.int .i64 0] _ _ rfl (heap_two w _ _) rfl rfl (by kernel_rfl)) rfl ?_
   exact ⟨rfl,((Below.refl w.heap.size w).alloc (Nat.le_refl _) _).alloc (by simp) _⟩
set_option maxRecDepth 100000 in
set_option maxHeartbeats 4000000 in
theorem ofb_1  (w:World) :
    Calls Tryz.prog 137 #[.int .i64 1] w fun e w'=>e=.returned (.agg #[.func (.func 194) #[] #[],.int .i64 6])∧Below w.heap.size w w':=by
 have HA:=fun w=>all_any w
 have hsf:=fun (a:Addr) (k:Nat) (w:World)=>run_store Tryz.prog w a (.func (.func k) #[] #[]) .plain rfl
 have HI:∀ w,(Instr.index 238 (Value.agg compsV) (Value.int IntKind.i64 1)).run Tryz.prog w=.ok (.agg #[.func (.func 194) #[] #[],.int .i64 6]) w:=fun w=>by rfl
 go_enter Tryz.func137,Tryz.ntmps137
 go_wp2_with (first | (go_at_call 173;(with_reducible refine (HA _).mono ?_);rintro e w' ⟨rfl,t,rfl⟩) | fail)
 refine bodyPost_ret (results_cell_row rfl _ _ w.heap.size _ #[.func (.func 194) #[] #[],.int .i64 6] _ _ rfl (heap_two w _ _) rfl rfl (by kernel_rfl)) rfl ?_
 exact ⟨rfl,((Below.refl w.heap.size w).alloc (Nat.le_refl _) _).alloc (by simp) _⟩
set_option maxRecDepth 100000 in
set_option maxHeartbeats 4000000 in
theorem ofb_2  (w:World) :
    Calls Tryz.prog 137 #[.int .i64 2] w fun e w'=>e=.returned (.agg #[.func (.func 195) #[] #[],.int .i64 5])∧Below w.heap.size w w':=by
 have HA:=fun w=>all_any w
 have hsf:=fun (a:Addr) (k:Nat) (w:World)=>run_store Tryz.prog w a (.func (.func k) #[] #[]) .plain rfl
 have HI:∀ w,(Instr.index 238 (Value.agg compsV) (Value.int IntKind.i64 2)).run Tryz.prog w=.ok (.agg #[.func (.func 195) #[] #[],.int .i64 5]) w:=fun w=>by rfl
 go_enter Tryz.func137,Tryz.ntmps137
 go_wp2_with (first | (go_at_call 173;(with_reducible refine (HA _).mono ?_);rintro e w' ⟨rfl,t,rfl⟩) | fail)
 refine bodyPost_ret (results_cell_row rfl _ _ w.heap.size _ #[.func (.func 195) #[] #[],.int .i64 5] _ _ rfl (heap_two w _ _) rfl rfl (by kernel_rfl)) rfl ?_
 exact ⟨rfl,((Below.refl w.heap.size w).alloc (Nat.le_refl _) _).alloc (by simp) _⟩
set_option maxRecDepth 100000 in
set_option maxHeartbeats 4000000 in
theorem ofb_3  (w:World) :
    Calls Tryz.prog 137 #[.int .i64 3] w fun e w'=>e=.returned (.agg #[.func (.func 196) #[] #[],.int .i64 4])∧Below w.heap.size w w':=by
 have HA:=fun w=>all_any w
 have hsf:=fun (a:Addr) (k:Nat) (w:World)=>run_store Tryz.prog w a (.func (.func k) #[] #[]) .plain rfl
 have HI:∀ w,(Instr.index 238 (Value.agg compsV) (Value.int IntKind.i64 3)).run Tryz.prog w=.ok (.agg #[.func (.func 196) #[] #[],.int .i64 4]) w:=fun w=>by rfl
 go_enter Tryz.func137,Tryz.ntmps137
 go_wp2_with (first | (go_at_call 173;(with_reducible refine (HA _).mono ?_);rintro e w' ⟨rfl,t,rfl⟩) | fail)
 refine bodyPost_ret (results_cell_row rfl _ _ w.heap.size _ #[.func (.func 196) #[] #[],.int .i64 4] _ _ rfl (heap_two w _ _) rfl rfl (by kernel_rfl)) rfl ?_
 exact ⟨rfl,((Below.refl w.heap.size w).alloc (Nat.le_refl _) _).alloc (by simp) _⟩
set_option maxRecDepth 100000 in
set_option maxHeartbeats 4000000 in
theorem ofb_4  (w:World) :
    Calls Tryz.prog 137 #[.int .i64 4] w fun e w'=>e=.returned (.agg #[.func (.func 197) #[] #[],.int .i64 3])∧Below w.heap.size w w':=by
 have HA:=fun w=>all_any w
 have hsf:=fun (a:Addr) (k:Nat) (w:World)=>run_store Tryz.prog w a (.func (.func k) #[] #[]) .plain rfl
 have HI:∀ w,(Instr.index 238 (Value.agg compsV) (Value.int IntKind.i64 4)).run Tryz.prog w=.ok (.agg #[.func (.func 197) #[] #[],.int .i64 3]) w:=fun w=>by rfl
 go_enter Tryz.func137,Tryz.ntmps137
 go_wp2_with (first | (go_at_call 173;(with_reducible refine (HA _).mono ?_);rintro e w' ⟨rfl,t,rfl⟩) | fail)
 refine bodyPost_ret (results_cell_row rfl _ _ w.heap.size _ #[.func (.func 197) #[] #[],.int .i64 3] _ _ rfl (heap_two w _ _) rfl rfl (by kernel_rfl)) rfl ?_
 exact ⟨rfl,((Below.refl w.heap.size w).alloc (Nat.le_refl _) _).alloc (by simp) _⟩
set_option maxRecDepth 100000 in
set_option maxHeartbeats 4000000 in
theorem ofb_5  (w:World) :
    Calls Tryz.prog 137 #[.int .i64 5] w fun e w'=>e=.returned (.agg #[.func (.func 198) #[] #[],.int .i64 2])∧Below w.heap.size w w':=by
 have HA:=fun w=>all_any w
 have hsf:=fun (a:Addr) (k:Nat) (w:World)=>run_store Tryz.prog w a (.func (.func k) #[] #[]) .plain rfl
 have HI:∀ w,(Instr.index 238 (Value.agg compsV) (Value.int IntKind.i64 5)).run Tryz.prog w=.ok (.agg #[.func (.func 198) #[] #[],.int .i64 2]) w:=fun w=>by rfl
 go_enter Tryz.func137,Tryz.ntmps137
 go_wp2_with (first | (go_at_call 173;(with_reducible refine (HA _).mono ?_);rintro e w' ⟨rfl,t,rfl⟩) | fail)
 refine bodyPost_ret (results_cell_row rfl _ _ w.heap.size _ #[.func (.func 198) #[] #[],.int .i64 2] _ _ rfl (heap_two w _ _) rfl rfl (by kernel_rfl)) rfl ?_
 exact ⟨rfl,((Below.refl w.heap.size w).alloc (Nat.le_refl _) _).alloc (by simp) _⟩
set_option maxRecDepth 100000 in
set_option maxHeartbeats 4000000 in
theorem ofb_6  (w:World) :
    Calls Tryz.prog 137 #[.int .i64 6] w fun e w'=>e=.returned (.agg #[.func (.func 199) #[] #[],.int .i64 1])∧Below w.heap.size w w':=by
 have HA:=fun w=>all_any w
 have hsf:=fun (a:Addr) (k:Nat) (w:World)=>run_store Tryz.prog w a (.func (.func k) #[] #[]) .plain rfl
 have HI:∀ w,(Instr.index 238 (Value.agg compsV) (Value.int IntKind.i64 6)).run Tryz.prog w=.ok (.agg #[.func (.func 199) #[] #[],.int .i64 1]) w:=fun w=>by rfl
 go_enter Tryz.func137,Tryz.ntmps137
 go_wp2_with (first | (go_at_call 173;(with_reducible refine (HA _).mono ?_);rintro e w' ⟨rfl,t,rfl⟩) | fail)
 refine bodyPost_ret (results_cell_row rfl _ _ w.heap.size _ #[.func (.func 199) #[] #[],.int .i64 1] _ _ rfl (heap_two w _ _) rfl rfl (by kernel_rfl)) rfl ?_
 exact ⟨rfl,((Below.refl w.heap.size w).alloc (Nat.le_refl _) _).alloc (by simp) _⟩
set_option maxRecDepth 100000 in
set_option maxHeartbeats 4000000 in
theorem ncmpb_0 (op:Int) (h0:op < 1 ∨ 6 < op) (a b:Int) (w:World) :
    Calls Tryz.prog 99 #[.int .i64 op,.int .i64 a,.int .i64 b] w fun e w'=>e=.returned (.bool (false))∧Below w.heap.size w w':=by
 have HC:=fun w=>ofb_0 op h0 w
 have HK:=fun w=>clos_0 a b w
 have HF:∀ (x y:Value) (w:World),(Instr.field 205 (.agg #[x,y]) 0).run Tryz.prog w=.ok x w:=fun x y w=>by rfl
 go_enter Tryz.func99,Tryz.ntmps99
 go_wp2_with (first | (go_at_call 137;(with_reducible refine (HC _).mono ?_);rintro e w' ⟨rfl,hg⟩) | (go_at_call 193;(with_reducible refine (HK _).mono ?_);rintro e w' ⟨rfl,rfl⟩) | fail)
 all_goals (go_ret;exact ⟨rfl,hg⟩)
set_option maxRecDepth 100000 in
set_option maxHeartbeats 4000000 in
theorem ncmpb_1  (a b:Int) (w:World) :
    Calls Tryz.prog 99 #[.int .i64 1,.int .i64 a,.int .i64 b] w fun e w'=>e=.returned (.bool (decide (a < b)))∧Below w.heap.size w w':=by
 have HC:=fun w=>ofb_1 w
 have HK:=fun w=>clos_1 a b w
 have HF:∀ (x y:Value) (w:World),(Instr.field 205 (.agg #[x,y]) 0).run Tryz.prog w=.ok x w:=fun x y w=>by rfl
 go_enter Tryz.func99,Tryz.ntmps99
 go_wp2_with (first | (go_at_call 137;(with_reducible refine (HC _).mono ?_);rintro e w' ⟨rfl,hg⟩) | (go_at_call 194;(with_reducible refine (HK _).mono ?_);rintro e w' ⟨rfl,rfl⟩) | fail)
 all_goals (go_ret;exact ⟨rfl,hg⟩)
set_option maxRecDepth 100000 in
set_option maxHeartbeats 4000000 in
theorem ncmpb_2  (a b:Int) (w:World) :
    Calls Tryz.prog 99 #[.int .i64 2,.int .i64 a,.int .i64 b] w fun e w'=>e=.returned (.bool (decide (a≤b)))∧Below w.heap.size w w':=by
 have HC:=fun w=>ofb_2 w
 have HK:=fun w=>clos_2 a b w
 have HF:∀ (x y:Value) (w:World),(Instr.field 205 (.agg #[x,y]) 0).run Tryz.prog w=.ok x w:=fun x y w=>by rfl
 go_enter Tryz.func99,Tryz.ntmps99
 go_wp2_with (first | (go_at_call 137;(with_reducible refine (HC _).mono ?_);rintro e w' ⟨rfl,hg⟩) | (go_at_call 195;(with_reducible refine (HK _).mono ?_);rintro e w' ⟨rfl,rfl⟩) | fail)
 all_goals (go_ret;exact ⟨rfl,hg⟩)
set_option maxRecDepth 100000 in
set_option maxHeartbeats 4000000 in
theorem ncmpb_3  (a b:Int) (w:World) :
    Calls Tryz.prog 99 #[.int .i64 3,.int .i64 a,.int .i64 b] w fun e w'=>e=.returned (.bool (a == b))∧Below w.heap.size w w':=by
 have HC:=fun w=>ofb_3 w
 have HK:=fun w=>clos_3 a b w
 have HF:∀ (x y:Value) (w:World),(Instr.field 205 (.agg #[x,y]) 0).run Tryz.prog w=.ok x w:=fun x y w=>by rfl
 go_enter Tryz.func99,Tryz.ntmps99
 go_wp2_with (first | (go_at_call 137;(with_reducible refine (HC _).mono ?_);rintro e w' ⟨rfl,hg⟩) | (go_at_call 196;(with_reducible refine (HK _).mono ?_);rintro e w' ⟨rfl,rfl⟩) | fail)
 all_goals (go_ret;exact ⟨rfl,hg⟩)
set_option maxRecDepth 100000 in
set_option maxHeartbeats 4000000 in
theorem ncmpb_4  (a b:Int) (w:World) :
    Calls Tryz.prog 99 #[.int .i64 4,.int .i64 a,.int .i64 b] w fun e w'=>e=.returned (.bool (a != b))∧Below w.heap.size w w':=by
 have HC:=fun w=>ofb_4 w
 have HK:=fun w=>clos_4 a b w
 have HF:∀ (x y:Value) (w:World),(Instr.field 205 (.agg #[x,y]) 0).run Tryz.prog w=.ok x w:=fun x y w=>by rfl
 go_enter Tryz.func99,Tryz.ntmps99
 go_wp2_with (first | (go_at_call 137;(with_reducible refine (HC _).mono ?_);rintro e w' ⟨rfl,hg⟩) | (go_at_call 197;(with_reducible refine (HK _).mono ?_);rintro e w' ⟨rfl,rfl⟩) | fail)
 all_goals (go_ret;exact ⟨rfl,hg⟩)
set_option maxRecDepth 100000 in
set_option maxHeartbeats 4000000 in
theorem ncmpb_5  (a b:Int) (w:World) :
    Calls Tryz.prog 99 #[.int .i64 5,.int .i64 a,.int .i64 b] w fun e w'=>e=.returned (.bool (decide (b < a)))∧Below w.heap.size w w':=by
 have HC:=fun w=>ofb_5 w
 have HK:=fun w=>clos_5 a b w
 have HF:∀ (x y:Value) (w:World),(Instr.field 205 (.agg #[x,y]) 0).run Tryz.prog w=.ok x w:=fun x y w=>by rfl
 go_enter Tryz.func99,Tryz.ntmps99
 go_wp2_with (first | (go_at_call 137;(with_reducible refine (HC _).mono ?_);rintro e w' ⟨rfl,hg⟩) | (go_at_call 198;(with_reducible refine (HK _).mono ?_);rintro e w' ⟨rfl,rfl⟩) | fail)
 all_goals (go_ret;exact ⟨rfl,hg⟩)
set_option maxRecDepth 100000 in
set_option maxHeartbeats 4000000 in
theorem ncmpb_6  (a b:Int) (w:World) :
    Calls Tryz.prog 99 #[.int .i64 6,.int .i64 a,.int .i64 b] w fun e w'=>e=.returned (.bool (decide (b≤a)))∧Below w.heap.size w w':=by
 have HC:=fun w=>ofb_6 w
 have HK:=fun w=>clos_6 a b w
 have HF:∀ (x y:Value) (w:World),(Instr.field 205 (.agg #[x,y]) 0).run Tryz.prog w=.ok x w:=fun x y w=>by rfl
 go_enter Tryz.func99,Tryz.ntmps99
 go_wp2_with (first | (go_at_call 137;(with_reducible refine (HC _).mono ?_);rintro e w' ⟨rfl,hg⟩) | (go_at_call 199;(with_reducible refine (HK _).mono ?_);rintro e w' ⟨rfl,rfl⟩) | fail)
 all_goals (go_ret;exact ⟨rfl,hg⟩)
theorem ncmp_any (op a b:Int) (w:World):Calls Tryz.prog 99 #[.int .i64 op,.int .i64 a,.int .i64 b] w (fun e w'=>e=.returned (.bool (cmpB op a b))∧Below w.heap.size w w'):=by
 by_cases h0:op < 1 ∨ 6 < op
 · rw [cmp_out h0]
   exact ncmpb_0 op h0 a b w
 · have hc:op=1 ∨ op=2 ∨ op=3 ∨ op=4 ∨ op=5 ∨ op=6:=by omega
   rcases hc with rfl | rfl | rfl | rfl | rfl | rfl
   · exact ncmpb_1 a b w
   · exact ncmpb_2 a b w
   · exact ncmpb_3 a b w
   · exact ncmpb_4 a b w
   · exact ncmpb_5 a b w
   · exact ncmpb_6 a b w
open Go Go.RowKit Go.Maps
set_option maxRecDepth 100000 in
theorem stepless_any (K:Me) (w0:World) (x:Nd) (us:List Value) (hty:x.ty=.E) (hok:okN K x) (hin:NdIn w0 x us) (w:World) (hw:Below w0.heap.size w0 w) :
    Calls Tryz.prog 186 #[.agg us.toArray] w (fun e w'=>e=.returned (.bool (barN x))∧Below w.heap.size w w'):=by
 have hcon:=constant_any K w0 x us hty hok hin
 have hnd:=hin.len
 rw [hty] at hnd
 obtain ⟨v0,v1,v2,v3,rfl⟩:=len4 hnd
 have hkd:v0=.int .i64 (kindN x):=by
  obtain ⟨ty,k',n',nm,xs,cs,ts,es⟩:=x
  simp only [Nd.ty] at hty
  subst hty
  unfold NdIn at hin
  obtain ⟨-,-,-,-,vx,vc,vt,ve,hvs,-⟩:=hin
  simp only [lay,List.cons.injEq] at hvs
  exact hvs.1
 obtain ⟨k,n,s,a,len,c,rfl,rfl,rfl,rfl⟩:=NdIn.formE hty hin
 change Calls _ _ #[.agg #[.int .i64 k,.int .i64 n,.string s,.slice a len c]] w _
 change ∀ w,_→Calls _ _ #[.agg #[.int .i64 k,.int .i64 n,.string s,.slice a len c]] w _ at hcon
 have hb:=(Below.refl w.heap.size w).alloc (Nat.le_refl _) (.cells #[.int .i64 k,.int .i64 n,.string s,.slice a len c] 142)
 have hX:=Blk.new w #[.int .i64 k,.int .i64 n,.string s,.slice a len c] 142
 have hC:=hcon _ (hw.trans (hb.mono hw.size))
 obtain ⟨W1,hW1⟩:∃ W1,w.alloc (.cells #[.int .i64 k,.int .i64 n,.string s,.slice a len c] 142)=W1:=⟨_,rfl⟩
 obtain ⟨X,hXX⟩:∃ X,w.heap.size=X:=⟨_,rfl⟩
 rw [hW1] at hb hX hC
 rw [hXX] at hX
 have x0:W1.cell? ⟨X,0,none⟩=some (.int .i64 k):=hX.cell 0
 have x1:W1.cell? ⟨X,1,none⟩=some (.int .i64 n):=hX.cell 1
 have x2:W1.cell? ⟨X,2,none⟩=some (.string s):=hX.cell 2
 have x3:W1.cell? ⟨X,3,none⟩=some (.slice a len c):=hX.cell 3
 have hbar:barN x=((conN x).isSome || decide (k=2)):=by
  unfold barN
  simp only [Value.int.injEq,true_and] at hkd
  rw [← hkd]
 rw [hbar]
 obtain ⟨CN,hCN⟩:∃ c,conN x=c:=⟨_,rfl⟩
 rw [hCN] at hC ⊢
 have HC:=Lib.hid hC;clear hC hcon hCN hbar hkd hnd hin hok hty hw
 have HX:=Lib.hid hX;clear hX
 have HB:=Lib.hid hb;clear hb
 have HW1:=Lib.hid hW1;clear hW1
 have HXX:=Lib.hid hXX;clear hXX
 have hfin:∀ w2,Below W1.heap.size W1 w2→Below w.heap.size w w2:=fun w2 h=>HB.out.trans (h.mono HB.out.size)
 cases CN with
 | some v =>
   unfold conV at HC
   go_enter Tryz.func186,Tryz.ntmps186
   go_upto_region 1 with fail
   rw [HW1.out,HXX.out]
   clear HW1
   go_wp2_with (first | (go_at_call 188;(with_reducible refine HC.out.mono ?_);rintro e w2 ⟨rfl,hb2⟩;have HB2:=Lib.hid hb2;clear hb2) | fail)
   go_ret
   exact ⟨rfl,hfin _ HB2.out⟩
 | none =>
   unfold conV at HC
   by_cases k2:k=2
   · subst k2
     go_enter Tryz.func186,Tryz.ntmps186
     go_upto_region 1 with fail
     rw [HW1.out,HXX.out]
     clear HW1
     go_wp2_with (first | (go_at_call 188;(with_reducible refine HC.out.mono ?_);rintro e w2 ⟨rfl,hb2⟩;have q0:w2.cell? ⟨X,0,none⟩=some (.int .i64 2):=(HX.out.next hb2).cell 0;have HB2:=Lib.hid hb2;clear hb2) | fail)
     go_ret
     exact ⟨rfl,hfin _ HB2.out⟩
   · have t2:(k == 2)=false:=by simpa using k2
     have d2:decide (k=2)=false:=by simpa using k2
     rw [d2]
     clear k2 d2
     go_enter Tryz.func186,Tryz.ntmps186
     go_upto_region 1 with fail
     rw [HW1.out,HXX.out]
     clear HW1
     go_wp2_with (first | (go_at_call 188;(with_reducible refine HC.out.mono ?_);rintro e w2 ⟨rfl,hb2⟩;have q0:w2.cell? ⟨X,0,none⟩=some (.int .i64 k):=(HX.out.next hb2).cell 0;have HB2:=Lib.hid hb2;clear hb2) | fail)
     go_ret
     exact ⟨rfl,hfin _ HB2.out⟩
def RHld (K:Me) (w0:World) (x:Nd):Prop:=∀ us s r w,NdIn w0 x us→Below w0.heap.size w0 w→At K w s r→Calls Tryz.prog 163 #[.pointer (some ⟨K.M,0,none⟩),.agg us.toArray] w (Ran K boolV anyG r w (hldN K.E x s))
theorem hld_not (E:Rv) (n:Int) (fs:List (Rn→Res Int)) (hs:List (Rn→Res Bool)) (s:Rn):hldK E 4 n fs hs s=(hnR hs 0 s).bind fun b s=>.go (!b) s:=rfl
theorem hld_and (E:Rv) (n:Int) (fs:List (Rn→Res Int)) (hs:List (Rn→Res Bool)) (s:Rn):hldK E 5 n fs hs s=(hnR hs 0 s).bind fun b s=>if b then hnR hs 1 s else .go false s:=rfl
theorem hld_or (E:Rv) (n:Int) (fs:List (Rn→Res Int)) (hs:List (Rn→Res Bool)) (s:Rn):hldK E 6 n fs hs s=(hnR hs 0 s).bind fun b s=>if b then .go true s else hnR hs 1 s:=rfl
theorem hld_cmp (E:Rv) (n:Int) (fs:List (Rn→Res Int)) (hs:List (Rn→Res Bool)) (s:Rn):hldK E 3 n fs hs s=(fnR fs 0 s).bind fun a s=>(fnR fs 1 s).bind fun b s=>(stepR E s).bind fun _ s=>.go (cmpB n a b) s:=rfl
set_option maxRecDepth 100000 in
set_option maxHeartbeats 8000000 in
theorem holds_any (K:Me) (hk:K.ok) (w0:World) (hH:w0.heap.size≤K.H0):∀ (N:Nat) (x:Nd),SizeOf.sizeOf x≤N→x.ty=.C→okN K x→RHld K w0 x:=by
 intro N
 induction N with
 | zero =>
   intro x hN
   obtain ⟨ty,k,n,nm,xs,cs,ts,es⟩:=x
   simp only [Nd.mk.sizeOf_spec] at hN
   omega
 | succ N ih =>
   intro x hN hty hok us s r w hin hw h
   obtain ⟨ty,k,n,nm,xs,cs,ts,es⟩:=x
   simp only [Nd.mk.sizeOf_spec] at hN
   simp only [Nd.ty] at hty
   subst hty
   unfold okN at hok
   obtain ⟨⟨hk1,hk6,hl3,hl4,hl5⟩,hgx,hgc,-⟩:=hok
   have hch:∀ i (hi:i < cs.length),RHld K w0 cs[i]:=fun i hi=>ih cs[i] (by have:=List.sizeOf_lt_of_mem (List.getElem_mem (l:=cs) (n:=i) hi);omega) (okL_at hgc i hi).1 (okL_at hgc i hi).2
   have hcv:∀ i (hi:i < xs.length),RVal K w0 xs[i]:=fun i hi=>value_any K hk w0 hH _ xs[i] (Nat.le_refl _) (okL_at hgx i hi).1 (okL_at hgx i hi).2
   clear ih hN hgx hgc
   have hhl:=hldL_at K.E cs
   have hvl:=valL_at K.E xs
   obtain ⟨R,hR⟩:∃ R,hldN K.E (.mk .C k n nm xs cs ts es) s=R:=⟨_,rfl⟩
   rw [hR]
   unfold hldN at hR
   unfold NdIn at hin
   obtain ⟨hz,-,-,-,vx,vc,vt,ve,rfl,hxs,hcs,-⟩:=hin
   obtain ⟨a,c,rfl,hlc,hcm,hrow⟩:=hxs
   obtain ⟨a2,c2,rfl,hlc2,hcm2,hrow2⟩:=hcs
   clear hz
   change Calls _ _ #[_,.agg #[.int .i64 k,.int .i64 n,.slice a xs.length c,.slice a2 cs.length c2]] w _
   have ht:=Tm.new h #[.int .i64 k,.int .i64 n,.slice a xs.length c,.slice a2 cs.length c2] 150
   have h1:=h.alloc hk (.cells #[.int .i64 k,.int .i64 n,.slice a xs.length c,.slice a2 cs.length c2] 150)
   obtain ⟨W1,hW1⟩:∃ W1,w.alloc (.cells #[.int .i64 k,.int .i64 n,.slice a xs.length c,.slice a2 cs.length c2] 150)=W1:=⟨_,rfl⟩
   obtain ⟨X,hX⟩:∃ X,w.heap.size=X:=⟨_,rfl⟩
   have hkr:Kr K r r w W1:=by rw [← hW1];exact (Kr.refl K r w).alloc _
   rw [hW1] at ht h1
   rw [hX] at ht
   have hw1:Below w0.heap.size w0 W1:=hw.trans ((hkr.old hk h).mono hH)
   have x0:W1.cell? ⟨X,0,none⟩=some (.int .i64 k):=ht.blk.cell 0
   have x1:W1.cell? ⟨X,1,none⟩=some (.int .i64 n):=ht.blk.cell 1
   have x2:W1.cell? ⟨X,2,none⟩=some (.slice a xs.length c):=ht.blk.cell 2
   have x3:W1.cell? ⟨X,3,none⟩=some (.slice a2 cs.length c2):=ht.blk.cell 3
   have HT:=Lib.hid (And.intro ht (And.intro h1 (And.intro hkr (And.intro hw1 hR))));clear ht h1 hkr hw1 hR
   have HW1:=Lib.hid hW1;clear hW1
   have HX:=Lib.hid hX;clear hX
   have HL:=Lib.hid (And.intro hl3 (And.intro hl4 (And.intro hl5 (And.intro hk1 hk6))));clear hl3 hl4 hl5 hk1 hk6
   have HROW:=Lib.hid hrow;clear hrow
   have HROW2:=Lib.hid hrow2;clear hrow2
   have HCH:=Lib.hid hch;clear hch
   have HCV:=Lib.hid hcv;clear hcv
   have HHL:=Lib.hid hhl;clear hhl
   have HVL:=Lib.hid hvl;clear hvl
   clear hw h
   by_cases k4:k=4
   · subst k4
     have hl:=HL.out.2.1 rfl
     have hl0:0 < cs.length:=by omega
     have hl1:(0:Int) < cs.length:=by omega
     have hr2:=HROW2.out.resolve_left (by omega)
     clear HROW2 hl
     obtain ⟨b0,o,rfl,hrow⟩:=hr2
     obtain ⟨hty,u0,u1,u2,u3,m0,m1,m2,m3,hnd⟩:=SlIn.item4 rfl hrow 0 hl0
     obtain ⟨fk,fn,fa,fl,fc,fa2,fl2,fc2,rfl,rfl,rfl,rfl⟩:=NdIn.formC hty hnd
     have hR:=HT.out.2.2.2.2
     rw [hld_not,HHL.out 0 hl0] at hR
     have HR:=Lib.hid hR
     have kk:=keeps_below HT.out.2.2.2.1
     have y0:=kk _ _ _ m0
     have y1:=kk _ _ _ m1
     have y2:=kk _ _ _ m2
     have y3:=kk _ _ _ m3
     simp only [Nat.zero_mul,Nat.add_zero] at y0 y1 y2 y3
     have HC:=Lib.hid (HCH.out 0 hl0 _ s r W1 hnd HT.out.2.2.2.1 HT.out.2.1)
     clear hR m0 m1 m2 m3 hnd hrow hty HCH kk hlc hcm hlc2 hcm2
     go_enter Tryz.func163,Tryz.ntmps163
     go_upto_region 1 with fail
     rw [HW1.out,HX.out]
     clear HW1
     go_wp2_with fail
     refine HC.out.mono ?_
     rintro e w3 ⟨r3,hk3,⟨v,s3,hr3,rfl,-,h3⟩ | ⟨st,wr3,s3,hr3,rfl,h3⟩⟩
     · have H3:=Lib.hid (And.intro hk3 (And.intro hr3 h3))
       clear hk3 hr3 h3
       go_wp2_with fail
       go_ret
       exact Ran.go (val:=boolV) (by rw [← HR.out,H3.out.2.1];rfl) (HT.out.2.2.1.trans H3.out.1) trivial H3.out.2.2
     · exact ⟨rfl,Ran.stop (by rw [← HR.out,hr3];rfl) (HT.out.2.2.1.trans hk3) h3⟩
   have t4:(k == 4)=false:=by simpa using k4
   by_cases k5:k=5
   · subst k5
     have hl:=HL.out.2.2.1 (by omega)
     have hl0:0 < cs.length:=by omega
     have hl1:(0:Int) < cs.length:=by omega
     have hl2:1 < cs.length:=by omega
     have hl3:(1:Int) < cs.length:=by omega
     have hr2:=HROW2.out.resolve_left (by omega)
     clear HROW2 hl
     obtain ⟨b0,o,rfl,hrow⟩:=hr2
     obtain ⟨hty,u0,u1,u2,u3,m0,m1,m2,m3,hnd⟩:=SlIn.item4 rfl hrow 0 hl0
     obtain ⟨fk,fn,fa,fl,fc,fa2,fl2,fc2,rfl,rfl,rfl,rfl⟩:=NdIn.formC hty hnd
     obtain ⟨jty,u0,u1,u2,u3,j0,j1,j2,j3,jnd⟩:=SlIn.item4 rfl hrow 1 hl2
     obtain ⟨gk,gn,ga,gl,gc,ga2,gl2,gc2,rfl,rfl,rfl,rfl⟩:=NdIn.formC jty jnd
     have hR:=HT.out.2.2.2.2
     rw [hld_and,HHL.out 0 hl0,HHL.out 1 hl2] at hR
     have HR:=Lib.hid hR
     have kk:=keeps_below HT.out.2.2.2.1
     have y0:=kk _ _ _ m0
     have y1:=kk _ _ _ m1
     have y2:=kk _ _ _ m2
     have y3:=kk _ _ _ m3
     simp only [Nat.zero_mul,Nat.add_zero] at y0 y1 y2 y3
     have HC:=Lib.hid (HCH.out 0 hl0 _ s r W1 hnd HT.out.2.2.2.1 HT.out.2.1)
     have HD:=Lib.hid (HCH.out 1 hl2)
     have HJ:=Lib.hid (And.intro j0 (And.intro j1 (And.intro j2 (And.intro j3 jnd))))
     clear hR m0 m1 m2 m3 hnd hrow hty HCH kk hlc hcm hlc2 hcm2 j0 j1 j2 j3 jnd jty
     go_enter Tryz.func163,Tryz.ntmps163
     go_upto_region 1 with fail
     rw [HW1.out,HX.out]
     clear HW1
     go_wp2_with fail
     refine HC.out.mono ?_
     rintro e w3 ⟨r3,hk3,⟨v,s3,hr3,rfl,-,h3⟩ | ⟨st,wr3,s3,hr3,rfl,h3⟩⟩
     · have hold:Below w0.heap.size w0 w3:=HT.out.2.2.2.1.trans ((hk3.old hk HT.out.2.1).mono hH)
       have kk:=keeps_below hold
       have k0:=kk _ _ _ HJ.out.1
       have k1:=kk _ _ _ HJ.out.2.1
       have k2:=kk _ _ _ HJ.out.2.2.1
       have k3:=kk _ _ _ HJ.out.2.2.2.1
       simp only [Nat.one_mul] at k0 k1 k2 k3
       have q3:w3.cell? ⟨X,3,none⟩=some (.slice (some ⟨b0,o,none⟩) cs.length c2):=(HT.out.1.kr hk hk3).blk.cell 3
       have HE:=Lib.hid (HD.out _ s3 r3 w3 HJ.out.2.2.2.2 hold h3)
       have H3:=Lib.hid (And.intro hk3 (And.intro hr3 h3))
       clear hk3 hr3 h3 kk hold
       cases v with
       | false =>
         go_wp2_with fail
         go_ret
         exact Ran.go (val:=boolV) (by rw [← HR.out,H3.out.2.1];rfl) (HT.out.2.2.1.trans H3.out.1) trivial H3.out.2.2
       | true =>
         go_wp2_with fail
         refine HE.out.mono ?_
         rintro e w4 ⟨r4,hk4,⟨v,s4,hr4,rfl,-,h4⟩ | ⟨st,wr4,s4,hr4,rfl,h4⟩⟩
         · have H4:=Lib.hid (And.intro hk4 (And.intro hr4 h4))
           clear hk4 hr4 h4
           go_wp2_with fail
           go_ret
           exact Ran.go (val:=boolV) (by rw [← HR.out,H3.out.2.1];exact H4.out.2.1) ((HT.out.2.2.1.trans H3.out.1).trans H4.out.1) trivial H4.out.2.2
         · exact ⟨rfl,Ran.stop (by rw [← HR.out,H3.out.2.1];exact hr4) ((HT.out.2.2.1.trans H3.out.1).trans hk4) h4⟩
     · exact ⟨rfl,Ran.stop (by rw [← HR.out,hr3];rfl) (HT.out.2.2.1.trans hk3) h3⟩
   have t5:(k == 5)=false:=by simpa using k5
   by_cases k6:k=6
   · subst k6
     have hl:=HL.out.2.2.1 (by omega)
     have hl0:0 < cs.length:=by omega
     have hl1:(0:Int) < cs.length:=by omega
     have hl2:1 < cs.length:=by omega
     have hl3:(1:Int) < cs.length:=by omega
     have hr2:=HROW2.out.resolve_left (by omega)
     clear HROW2 hl
     obtain ⟨b0,o,rfl,hrow⟩:=hr2
     obtain ⟨hty,u0,u1,u2,u3,m0,m1,m2,m3,hnd⟩:=SlIn.item4 rfl hrow 0 hl0
     obtain ⟨fk,fn,fa,fl,fc,fa2,fl2,fc2,rfl,rfl,rfl,rfl⟩:=NdIn.formC hty hnd
     obtain ⟨jty,u0,u1,u2,u3,j0,j1,j2,j3,jnd⟩:=SlIn.item4 rfl hrow 1 hl2
     obtain ⟨gk,gn,ga,gl,gc,ga2,gl2,gc2,rfl,rfl,rfl,rfl⟩:=NdIn.formC jty jnd
     have hR:=HT.out.2.2.2.2
     rw [hld_or,HHL.out 0 hl0,HHL.out 1 hl2] at hR
     have HR:=Lib.hid hR
     have kk:=keeps_below HT.out.2.2.2.1
     have y0:=kk _ _ _ m0
     have y1:=kk _ _ _ m1
     have y2:=kk _ _ _ m2
     have y3:=kk _ _ _ m3
     simp only [Nat.zero_mul,Nat.add_zero] at y0 y1 y2 y3
     have HC:=Lib.hid (HCH.out 0 hl0 _ s r W1 hnd HT.out.2.2.2.1 HT.out.2.1)
     have HD:=Lib.hid (HCH.out 1 hl2)
     have HJ:=Lib.hid (And.intro j0 (And.intro j1 (And.intro j2 (And.intro j3 jnd))))
     clear hR m0 m1 m2 m3 hnd hrow hty HCH kk hlc hcm hlc2 hcm2 j0 j1 j2 j3 jnd jty
     go_enter Tryz.func163,Tryz.ntmps163
     go_upto_region 1 with fail
     rw [HW1.out,HX.out]
     clear HW1
     go_wp2_with fail
     refine HC.out.mono ?_
     rintro e w3 ⟨r3,hk3,⟨v,s3,hr3,rfl,-,h3⟩ | ⟨st,wr3,s3,hr3,rfl,h3⟩⟩
     · have hold:Below w0.heap.size w0 w3:=HT.out.2.2.2.1.trans ((hk3.old hk HT.out.2.1).mono hH)
       have kk:=keeps_below hold
       have k0:=kk _ _ _ HJ.out.1
       have k1:=kk _ _ _ HJ.out.2.1
       have k2:=kk _ _ _ HJ.out.2.2.1
       have k3:=kk _ _ _ HJ.out.2.2.2.1
       simp only [Nat.one_mul] at k0 k1 k2 k3
       have q3:w3.cell? ⟨X,3,none⟩=some (.slice (some ⟨b0,o,none⟩) cs.length c2):=(HT.out.1.kr hk hk3).blk.cell 3
       have HE:=Lib.hid (HD.out _ s3 r3 w3 HJ.out.2.2.2.2 hold h3)
       have H3:=Lib.hid (And.intro hk3 (And.intro hr3 h3))
       clear hk3 hr3 h3 kk hold
       cases v with
       | true =>
         go_wp2_with fail
         go_ret
         exact Ran.go (val:=boolV) (by rw [← HR.out,H3.out.2.1];rfl) (HT.out.2.2.1.trans H3.out.1) trivial H3.out.2.2
       | false =>
         go_wp2_with fail
         refine HE.out.mono ?_
         rintro e w4 ⟨r4,hk4,⟨v,s4,hr4,rfl,-,h4⟩ | ⟨st,wr4,s4,hr4,rfl,h4⟩⟩
         · have H4:=Lib.hid (And.intro hk4 (And.intro hr4 h4))
           clear hk4 hr4 h4
           go_wp2_with fail
           go_ret
           exact Ran.go (val:=boolV) (by rw [← HR.out,H3.out.2.1];exact H4.out.2.1) ((HT.out.2.2.1.trans H3.out.1).trans H4.out.1) trivial H4.out.2.2
         · exact ⟨rfl,Ran.stop (by rw [← HR.out,H3.out.2.1];exact hr4) ((HT.out.2.2.1.trans H3.out.1).trans hk4) h4⟩
     · exact ⟨rfl,Ran.stop (by rw [← HR.out,hr3];rfl) (HT.out.2.2.1.trans hk3) h3⟩
   have t6:(k == 6)=false:=by simpa using k6
   by_cases k3:k=3
   · subst k3
     have hl:=HL.out.1 rfl
     have hl0:0 < xs.length:=by omega
     have hl1:(0:Int) < xs.length:=by omega
     have hl2:1 < xs.length:=by omega
     have hl3:(1:Int) < xs.length:=by omega
     have hr2:=HROW.out.resolve_left (by omega)
     clear HROW hl
     obtain ⟨b0,o,rfl,hrow⟩:=hr2
     obtain ⟨hty,u0,u1,u2,u3,m0,m1,m2,m3,hnd⟩:=SlIn.item4 rfl hrow 0 hl0
     obtain ⟨fk,fn,fs',fa,fl,fc,rfl,rfl,rfl,rfl⟩:=NdIn.formE hty hnd
     obtain ⟨jty,u0,u1,u2,u3,j0,j1,j2,j3,jnd⟩:=SlIn.item4 rfl hrow 1 hl2
     obtain ⟨gk,gn,gs',ga,gl,gc,rfl,rfl,rfl,rfl⟩:=NdIn.formE jty jnd
     have hR:=HT.out.2.2.2.2
     rw [hld_cmp,HVL.out 0 hl0,HVL.out 1 hl2] at hR
     have HR:=Lib.hid hR
     have kk:=keeps_below HT.out.2.2.2.1
     have y0:=kk _ _ _ m0
     have y1:=kk _ _ _ m1
     have y2:=kk _ _ _ m2
     have y3:=kk _ _ _ m3
     have z0:=kk _ _ _ j0
     have z1:=kk _ _ _ j1
     have z2:=kk _ _ _ j2
     have z3:=kk _ _ _ j3
     simp only [Nat.zero_mul,Nat.add_zero] at y0 y1 y2 y3
     simp only [Nat.one_mul] at z0 z1 z2 z3
     have HC:=Lib.hid (HCV.out 0 hl0 _ s r W1.drew hnd HT.out.2.2.2.1.drew (HT.out.2.1.drew hk))
     have HD:=Lib.hid (HCV.out 1 hl2)
     have HJ:=Lib.hid (And.intro j0 (And.intro j1 (And.intro j2 (And.intro j3 jnd))))
     have HT2:=Lib.hid (HT.out.1.next (Below.refl _ W1).drew)
     obtain ⟨E0,hE0⟩:∃ y,xs[0]=y:=⟨_,rfl⟩
     obtain ⟨E1,hE1⟩:∃ y,xs[1]=y:=⟨_,rfl⟩
     rw [hE0] at HR HC
     rw [hE1] at HR HD HJ
     clear hR m0 m1 m2 m3 hnd hrow hty kk hlc hcm hlc2 hcm2 j0 j1 j2 j3 jnd jty HCV HVL HHL HCH HROW2 hE0 hE1
     go_enter Tryz.func163,Tryz.ntmps163
     go_upto_region 1 with fail
     rw [HW1.out,HX.out]
     clear HW1
     go_upto_region 9 with fail
     go_region_with (first
      | (go_at_call 161;(with_reducible refine HC.out.mono ?_);rintro e w3 ⟨r3,hk3,⟨v,s3,hr3,rfl,hf3,h3⟩ | ⟨st,wr3,s3,hr3,rfl,h3⟩⟩;rotate_left;(exact ⟨rfl,Ran.stop (by rw [← HR.out,hr3];rfl) (HT.out.2.2.1.drew.trans hk3) h3⟩);(have hold:Below w0.heap.size w0 w3:=HT.out.2.2.2.1.drew.trans ((hk3.old hk (HT.out.2.1.drew hk)).mono hH));(have k0:=keeps_below hold _ _ _ HJ.out.1);(have k1:=keeps_below hold _ _ _ HJ.out.2.1);(have k2:=keeps_below hold _ _ _ HJ.out.2.2.1);(have k3:=keeps_below hold _ _ _ HJ.out.2.2.2.1);(simp only [Nat.one_mul] at k0 k1 k2 k3);(have q2:w3.cell? ⟨X,2,none⟩=some (.slice (some ⟨b0,o,none⟩) xs.length c):=(HT2.out.kr hk hk3).blk.cell 2);(have HD3:=Lib.hid (HD.out _ s3 r3 w3 HJ.out.2.2.2.2 hold h3));(have HT3:=Lib.hid (HT2.out.kr hk hk3));(have H3:=Lib.hid (And.intro hk3 (And.intro hr3 (And.intro hf3 h3))));clear hk3 hr3 hf3 h3 hold)
      | (go_at_call 161;(with_reducible refine HD3.out.mono ?_);rintro e w4 ⟨r4,hk4,⟨v4,s4,hr4,rfl,hf4,h4⟩ | ⟨st,wr4,s4,hr4,rfl,h4⟩⟩;rotate_left;(exact ⟨rfl,Ran.stop (by rw [← HR.out,H3.out.2.1];show (valN K.E E1 s3).bind _=_;rw [hr4];rfl) ((HT.out.2.2.1.drew.trans H3.out.1).trans hk4) h4⟩);(have HT4:=Lib.hid (HT3.out.kr hk hk4));(have H4:=Lib.hid (And.intro hk4 (And.intro hr4 (And.intro hf4 h4))));clear hk4 hr4 hf4 h4))
     all_goals
      have HS:=Lib.hid (step_any K hk s4 r4 w4 H4.out.2.2.2)
      go_wp2_with fail
      refine HS.out.mono ?_
      rintro e w5 ⟨r5,hk5,⟨u,s5,hr5,rfl,-,h5⟩ | ⟨st,wr5,s5,hr5,rfl,h5⟩⟩
      · have p1:w5.cell? ⟨X,1,none⟩=some (.int .i64 n):=(HT4.out.kr hk hk5).blk.cell 1
        have H5:=Lib.hid (And.intro hk5 (And.intro hr5 h5))
        clear hk5 hr5 h5
        go_wp2_with (first | (go_at_call 99;(with_reducible refine (ncmp_any n v v4 w5).mono ?_);rintro e w6 ⟨rfl,hb6⟩;have HB6:=Lib.hid hb6;clear hb6) | fail)
        go_ret
        refine Ran.go (val:=boolV) ?_ ((((HT.out.2.2.1.drew.trans H3.out.1).trans H4.out.1).trans H5.out.1).trans (Kr.below HB6.out)) trivial (H5.out.2.2.next hk HB6.out)
        rw [← HR.out,H3.out.2.1]
        show (valN K.E E1 s3).bind _=_
        rw [H4.out.2.1]
        show (stepR K.E s4).bind _=_
        rw [H5.out.2.1]
        rfl
      · refine ⟨rfl,Ran.stop ?_ (((HT.out.2.2.1.drew.trans H3.out.1).trans H4.out.1).trans hk5) h5⟩
        rw [← HR.out,H3.out.2.1]
        show (valN K.E E1 s3).bind _=_
        rw [H4.out.2.1]
        show (stepR K.E s4).bind _=_
        rw [hr5]
        rfl
   have t3:(k == 3)=false:=by simpa using k3
   have hR:=HT.out.2.2.2.2
   unfold hldK at hR
   rw [if_neg k4,if_neg k5,if_neg k6,if_neg k3] at hR
   have HR:=Lib.hid hR
   have HS:=Lib.hid (step_any K hk s r W1 HT.out.2.1)
   obtain ⟨B,hB⟩:∃ B,decide (k=1)=B:=⟨_,rfl⟩
   have hB1:(k == 1)=B:=by rw [← hB];by_cases h1:k=1 <;> simp [h1]
   rw [hB] at HR
   clear hR hB k3 k4 k5 k6 hlc hcm hlc2 hcm2 HCH HCV HROW HROW2
   go_enter Tryz.func163,Tryz.ntmps163
   go_upto_region 1 with fail
   rw [HW1.out,HX.out]
   clear HW1
   go_wp2_with fail
   refine HS.out.mono ?_
   rintro e w3 ⟨r3,hk3,⟨u,s3,hr3,rfl,-,h3⟩ | ⟨st,wr3,s3,hr3,rfl,h3⟩⟩
   · have q0:w3.cell? ⟨X,0,none⟩=some (.int .i64 k):=(HT.out.1.kr hk hk3).blk.cell 0
     have H3:=Lib.hid (And.intro hk3 (And.intro hr3 h3))
     clear hk3 hr3 h3
     go_wp2_with fail
     go_ret
     exact Ran.go (val:=boolV) (by rw [← HR.out,H3.out.2.1];rfl) (HT.out.2.2.1.trans H3.out.1) trivial H3.out.2.2
   · exact ⟨rfl,Ran.stop (by rw [← HR.out,hr3];rfl) (HT.out.2.2.1.trans hk3) h3⟩
end Go.Proofs.YtmohmggnjldddaaGreatDoor
