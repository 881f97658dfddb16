/-
  The document's walk over a tree (gnomonref3's walk.node, walk.expr, walk.cond, walk.stmt): proved is what each leaves in the walk's cells: how many nodes were met, the greatest depth, the first error.
-/
import Derived.Test.YtmohmggnjldddaaGreatDoorShelf
import Derived.Test.YtmohmggnjldddaaGreatDoorRows
import Derived.WalkKit
import Derived.ProofKit
import Derived.OpenShut
import Derived.Deep.RegionWith
import Derived.Laws.Rows
import Derived.ChangeReads
import Derived.ChangeOld
import Derived.RowKit
import Derived.Below
import Derived.KernelRfl
import Derived.Deep.Slices
import Derived.RangeFuncNested
import Derived.ControlIn
import Derived.Lib.OthersKept
import Derived.Lib.Hide
import Derived.WalkSmall
namespace Go.Proofs.YtmohmggnjldddaaGreatDoor
open Go Go.RowKit
def fitsI (x:Int):Prop:=-9223372036854775808≤x∧x≤9223372036854775807
instance (x:Int):Decidable (fitsI x):=by unfold fitsI;infer_instance
def tellV (x:Int):Value:=if fitsI x then .tuple #[.int .i64 x,.int .i64 0] else .tuple #[.int .i64 0,.int .i64 1]
theorem tell_ok {x:Int} (h:fitsI x):tellV x=.tuple #[.int .i64 x,.int .i64 0]:=by unfold tellV;rw [if_pos h]
theorem tell_over {x:Int} (h:¬ fitsI x):tellV x=.tuple #[.int .i64 0,.int .i64 1]:=by unfold tellV;rw [if_neg h]
theorem tell_is {x s:Int} (h:fitsI x) (e:s=x):Ending.returned (.tuple #[.int .i64 s,.int .i64 0])=Ending.returned (tellV x):=by rw [tell_ok h,e]
theorem tell_not {x:Int} (h:¬ fitsI x):Ending.returned (.tuple #[.int .i64 0,.int .i64 1])=Ending.returned (tellV x):=by rw [tell_over h]
theorem fits_wf {x:Int} (h:(Lit.int .i64 x).wf=true):fitsI x:=by
 simp [Lit.wf,IntKind.min,IntKind.max,IntKind.signed,IntKind.bits] at h
 exact h
theorem fits_wrap {x:Int} (h:fitsI x):IntKind.i64.wrap x=x:=by
 unfold fitsI at h
 rw [IntKind.wrap_i64]
 omega
def divV (a b:Int):Value:=if b=0 then .tuple #[.int .i64 0,.int .i64 2] else tellV (a.tdiv b)
def remV (a b:Int):Value:=if b=0 then .tuple #[.int .i64 0,.int .i64 2] else if a = -9223372036854775808∧b = -1 then .tuple #[.int .i64 0,.int .i64 1] else .tuple #[.int .i64 (a.tmod b),.int .i64 0]
theorem tdiv_fits {a b:Int} (ha:fitsI a) (hb:b ≠ 0) (hx:¬ (a = -9223372036854775808∧b = -1)):fitsI (a.tdiv b):=by
 unfold fitsI at *
 by_cases h1:b=1
 · subst h1;rw [Int.tdiv_one];exact ha
 by_cases h2:b = -1
 · subst h2;rw [Int.tdiv_neg,Int.tdiv_one];omega
 have h:=Int.natAbs_tdiv a b
 have h3:a.natAbs.div b.natAbs≤a.natAbs / 2:=Nat.div_le_div_left (by omega) (by omega)
 omega
theorem tmod_facts (a b:Int):(a.tmod b).natAbs≤a.natAbs∧(0≤a→0≤a.tmod b)∧(a≤0→a.tmod b≤0):=by
 refine ⟨by rw [Int.natAbs_tmod];exact Nat.mod_le _ _,fun h=>Int.tmod_nonneg b h,fun h=>?_⟩
 have h2:=Int.tmod_nonneg b (a:=-a) (by omega)
 rw [Int.neg_tmod] at h2
 omega
theorem tdiv_over:¬ fitsI ((-9223372036854775808:Int).tdiv (-1)):=by decide
set_option maxRecDepth 100000 in
set_option maxHeartbeats 4000000 in
theorem nadd (a b:Int) (ha:fitsI a) (hb:fitsI b) (w:World) :
    Calls Tryz.prog 131 #[.int .i64 a,.int .i64 b] w fun e w'=>e=.returned (tellV (a+b))∧w'=w:=by
 obtain ⟨s,hs⟩:∃ s,IntKind.i64.wrap (a+b)=s:=⟨_,rfl⟩
 have hx:=hs
 rw [IntKind.wrap_i64] at hx
 unfold fitsI at ha hb
 by_cases h1:a < 0 <;> by_cases h2:b < 0 <;> by_cases h3:s < 0
 all_goals
  go_enter Tryz.func131,Tryz.ntmps131
  go_wp2
  go_ret2
  first
   | (refine ⟨tell_is ?_ ?_,rfl⟩;all_goals (first | omega | (refine ⟨?_,?_⟩ <;> omega)))
   | (refine ⟨tell_not ?_,rfl⟩;unfold fitsI;omega)
set_option maxRecDepth 100000 in
set_option maxHeartbeats 4000000 in
theorem nsub (a b:Int) (ha:fitsI a) (hb:fitsI b) (w:World) :
    Calls Tryz.prog 132 #[.int .i64 a,.int .i64 b] w fun e w'=>e=.returned (tellV (a - b))∧w'=w:=by
 obtain ⟨s,hs⟩:∃ s,IntKind.i64.wrap (a - b)=s:=⟨_,rfl⟩
 have hx:=hs
 rw [IntKind.wrap_i64] at hx
 unfold fitsI at ha hb
 by_cases h1:a < 0 <;> by_cases h2:b < 0 <;> by_cases h3:s < 0
 all_goals
  go_enter Tryz.func132,Tryz.ntmps132
  go_wp2
  go_ret2
  first
   | (refine ⟨tell_is ?_ ?_,rfl⟩;all_goals (first | omega | (refine ⟨?_,?_⟩ <;> omega)))
   | (refine ⟨tell_not ?_,rfl⟩;unfold fitsI;omega)
set_option maxRecDepth 100000 in
set_option maxHeartbeats 4000000 in
theorem nneg (a:Int) (ha:fitsI a) (w:World) :
    Calls Tryz.prog 129 #[.int .i64 a] w fun e w'=>e=.returned (tellV (-a))∧w'=w:=by
 have c:=fun w=>nsub 0 a (by decide) ha w
 rw [Int.zero_sub] at c
 by_cases hf:fitsI (-a)
 · rw [tell_ok hf] at c ⊢
   go_enter Tryz.func129,Tryz.ntmps129
   go_wp2_with (go_at_call 132;refine (c _).mono ?_;rintro e w' ⟨rfl,rfl⟩)
   all_goals (go_ret2;exact ⟨rfl,rfl⟩)
 · rw [tell_over hf] at c ⊢
   go_enter Tryz.func129,Tryz.ntmps129
   go_wp2_with (go_at_call 132;refine (c _).mono ?_;rintro e w' ⟨rfl,rfl⟩)
   all_goals (go_ret2;exact ⟨rfl,rfl⟩)
def prt (a b:Int):Int:=if b=0 then 2 else if a = -9223372036854775808∧b = -1 then 1 else 0
set_option maxRecDepth 100000 in
set_option maxHeartbeats 4000000 in
theorem npart (a b:Int) (w:World) :
    Calls Tryz.prog 172 #[.int .i64 a,.int .i64 b] w fun e w'=>e=.returned (.int .i64 (prt a b))∧w'=w:=by
 by_cases h1:b=0
 · have e:prt a b=2:=by unfold prt;rw [if_pos h1]
   rw [e];clear e
   go_enter Tryz.func172,Tryz.ntmps172
   go_wp2
   all_goals (go_ret;exact ⟨rfl,rfl⟩)
 by_cases h2:a = -9223372036854775808
 · by_cases h3:b = -1
   · have e:prt a b=1:=by unfold prt;rw [if_neg h1,if_pos ⟨h2,h3⟩]
     rw [e];clear e
     go_enter Tryz.func172,Tryz.ntmps172
     go_wp2
     all_goals (go_ret;exact ⟨rfl,rfl⟩)
   · have e:prt a b=0:=by unfold prt;rw [if_neg h1,if_neg (fun h=>h3 h.2)]
     rw [e];clear e
     go_enter Tryz.func172,Tryz.ntmps172
     go_wp2
     all_goals (go_ret;exact ⟨rfl,rfl⟩)
 · have e:prt a b=0:=by unfold prt;rw [if_neg h1,if_neg (fun h=>h2 h.1)]
   rw [e];clear e
   go_enter Tryz.func172,Tryz.ntmps172
   go_wp2
   all_goals (go_ret;exact ⟨rfl,rfl⟩)
set_option maxRecDepth 100000 in
set_option maxHeartbeats 4000000 in
theorem ndiv (a b:Int) (ha:fitsI a) (_:fitsI b) (w:World) :
    Calls Tryz.prog 134 #[.int .i64 a,.int .i64 b] w fun e w'=>e=.returned (divV a b)∧w'=w:=by
 have c:=fun w=>npart a b w
 by_cases h1:b=0
 · have e:prt a b=2:=by unfold prt;rw [if_pos h1]
   rw [e] at c
   have e2:divV a b=.tuple #[.int .i64 0,.int .i64 2]:=by unfold divV;rw [if_pos h1]
   rw [e2];clear e e2 h1
   go_enter Tryz.func134,Tryz.ntmps134
   go_wp2_with (go_at_call 172;refine (c _).mono ?_;rintro e w' ⟨rfl,rfl⟩)
   all_goals (go_ret2;exact ⟨rfl,rfl⟩)
 by_cases h2:a = -9223372036854775808∧b = -1
 · have e:prt a b=1:=by unfold prt;rw [if_neg h1,if_pos h2]
   rw [e] at c
   have e2:divV a b=.tuple #[.int .i64 0,.int .i64 1]:=by unfold divV;rw [if_neg h1,h2.1,h2.2,tell_over tdiv_over]
   rw [e2];clear e e2 h2 h1
   go_enter Tryz.func134,Tryz.ntmps134
   go_wp2_with (go_at_call 172;refine (c _).mono ?_;rintro e w' ⟨rfl,rfl⟩)
   all_goals (go_ret2;exact ⟨rfl,rfl⟩)
 · have e:prt a b=0:=by unfold prt;rw [if_neg h1,if_neg h2]
   rw [e] at c
   have e2:divV a b=.tuple #[.int .i64 (a.tdiv b),.int .i64 0]:=by unfold divV;rw [if_neg h1,tell_ok (tdiv_fits ha h1 h2)]
   rw [e2];clear e e2
   have hq:=fits_wrap (tdiv_fits ha h1 h2)
   go_enter Tryz.func134,Tryz.ntmps134
   go_wp2_with (go_at_call 172;refine (c _).mono ?_;rintro e w' ⟨rfl,rfl⟩)
   all_goals (go_ret2;exact ⟨rfl,rfl⟩)
set_option maxRecDepth 100000 in
set_option maxHeartbeats 4000000 in
theorem nrem (a b:Int) (ha:fitsI a) (_:fitsI b) (w:World) :
    Calls Tryz.prog 135 #[.int .i64 a,.int .i64 b] w fun e w'=>e=.returned (remV a b)∧w'=w:=by
 have c:=fun w=>npart a b w
 by_cases h1:b=0
 · have e:prt a b=2:=by unfold prt;rw [if_pos h1]
   rw [e] at c
   have e2:remV a b=.tuple #[.int .i64 0,.int .i64 2]:=by unfold remV;rw [if_pos h1]
   rw [e2];clear e e2 h1
   go_enter Tryz.func135,Tryz.ntmps135
   go_wp2_with (go_at_call 172;refine (c _).mono ?_;rintro e w' ⟨rfl,rfl⟩)
   all_goals (go_ret2;exact ⟨rfl,rfl⟩)
 by_cases h2:a = -9223372036854775808∧b = -1
 · have e:prt a b=1:=by unfold prt;rw [if_neg h1,if_pos h2]
   rw [e] at c
   have e2:remV a b=.tuple #[.int .i64 0,.int .i64 1]:=by unfold remV;rw [if_neg h1,if_pos h2]
   rw [e2];clear e e2 h2 h1
   go_enter Tryz.func135,Tryz.ntmps135
   go_wp2_with (go_at_call 172;refine (c _).mono ?_;rintro e w' ⟨rfl,rfl⟩)
   all_goals (go_ret2;exact ⟨rfl,rfl⟩)
 · have e:prt a b=0:=by unfold prt;rw [if_neg h1,if_neg h2]
   rw [e] at c
   have e2:remV a b=.tuple #[.int .i64 (a.tmod b),.int .i64 0]:=by unfold remV;rw [if_neg h1,if_neg h2]
   rw [e2];clear e e2
   have hq:IntKind.i64.wrap (a.tmod b)=a.tmod b:=fits_wrap (by have:=tmod_facts a b;unfold fitsI at *;omega)
   go_enter Tryz.func135,Tryz.ntmps135
   go_wp2_with (go_at_call 172;refine (c _).mono ?_;rintro e w' ⟨rfl,rfl⟩)
   all_goals (go_ret2;exact ⟨rfl,rfl⟩)
set_option maxRecDepth 100000 in
set_option maxHeartbeats 4000000 in
theorem nsize (a:Int) (ha:fitsI a) (w:World) :
    Calls Tryz.prog 170 #[.int .i64 a] w fun e w'=>e=.returned (.int .u64 ((a.natAbs:Nat):Int))∧w'=w:=by
 unfold fitsI at ha
 by_cases h:a < 0
 · have h1:IntKind.u64.wrap a=a+18446744073709551616:=by rw [IntKind.wrap_u64];omega
   have h2:IntKind.u64.wrap (-(a+18446744073709551616)) = -a:=by rw [IntKind.wrap_u64];omega
   have h3:((a.natAbs:Nat):Int) = -a:=by omega
   rw [h3];clear h3
   go_enter Tryz.func170,Tryz.ntmps170
   go_wp2
   go_ret
   exact ⟨rfl,rfl⟩
 · have h1:IntKind.u64.wrap a=a:=by rw [IntKind.wrap_u64];omega
   have h3:((a.natAbs:Nat):Int)=a:=by omega
   rw [h3];clear h3
   go_enter Tryz.func170,Tryz.ntmps170
   go_wp2
   go_ret
   exact ⟨rfl,rfl⟩
set_option maxRecDepth 100000 in
set_option maxHeartbeats 4000000 in
theorem nsigned (x:Int) (h0:0≤x) (hx:x < 18446744073709551616) (c:Bool) (w:World) :
    Calls Tryz.prog 171 #[.int .u64 x,.bool c] w fun e w'=>e=.returned (tellV (if c then -x else x))∧w'=w:=by
 cases c with
 | true =>
   rw [if_pos rfl]
   by_cases h:x≤9223372036854775808
   · have h3:IntKind.i64.wrap (IntKind.u64.wrap (-x)) = -x:=by rw [IntKind.wrap_u64,IntKind.wrap_i64];omega
     rw [tell_ok (show fitsI (-x) by unfold fitsI;omega)]
     go_enter Tryz.func171,Tryz.ntmps171
     go_wp2
     go_ret2
     exact ⟨rfl,rfl⟩
   · rw [tell_over (show ¬ fitsI (-x) by unfold fitsI;omega)]
     go_enter Tryz.func171,Tryz.ntmps171
     go_wp2
     go_ret2
     exact ⟨rfl,rfl⟩
 | false =>
   rw [if_neg (by decide)]
   by_cases h:x≤9223372036854775807
   · have h3:IntKind.i64.wrap x=x:=by rw [IntKind.wrap_i64];omega
     rw [tell_ok (show fitsI x by unfold fitsI;omega)]
     go_enter Tryz.func171,Tryz.ntmps171
     go_wp2
     go_ret2
     exact ⟨rfl,rfl⟩
   · rw [tell_over (show ¬ fitsI x by unfold fitsI;omega)]
     go_enter Tryz.func171,Tryz.ntmps171
     go_wp2
     go_ret2
     exact ⟨rfl,rfl⟩
theorem tell_form (x:Int):∃ v e:Int,tellV x=.tuple #[.int .i64 v,.int .i64 e]:=by
 unfold tellV
 split <;> exact ⟨_,_,rfl⟩
theorem sides (a b:Int):a * b=if (decide (a < 0) != decide (b < 0))=true then -(((a.natAbs * b.natAbs:Nat)):Int) else ((a.natAbs * b.natAbs:Nat):Int):=by
 rw [Int.natCast_mul]
 by_cases ha:a < 0 <;> by_cases hb:b < 0
 · have h1:(a.natAbs:Int) = -a:=by omega
   have h2:(b.natAbs:Int) = -b:=by omega
   rw [h1,h2];simp [ha,hb,Int.neg_mul,Int.mul_neg]
 · have h1:(a.natAbs:Int) = -a:=by omega
   have h2:(b.natAbs:Int)=b:=by omega
   rw [h1,h2];simp [ha,hb,Int.neg_mul]
 · have h1:(a.natAbs:Int)=a:=by omega
   have h2:(b.natAbs:Int) = -b:=by omega
   rw [h1,h2];simp [ha,hb,Int.mul_neg]
 · have h1:(a.natAbs:Int)=a:=by omega
   have h2:(b.natAbs:Int)=b:=by omega
   rw [h1,h2];simp [ha,hb]
theorem halves (a b:Int) (w:World) (ha:fitsI a) (hb:fitsI b) :
    ∃ hi lo:Int,hi=((a.natAbs * b.natAbs / 18446744073709551616:Nat):Int)∧lo=((a.natAbs * b.natAbs % 18446744073709551616:Nat):Int) ∧
     Calls Tryz.prog 169 #[.int .u64 ((a.natAbs:Nat):Int),.int .u64 ((b.natAbs:Nat):Int)] w fun e w'=>e=.returned (.tuple #[.int .u64 hi,.int .u64 lo])∧w'=w:=by
 unfold fitsI at ha hb
 exact ⟨_,_,rfl,rfl,Tryz.bits_Mul64 a.natAbs b.natAbs (by omega) (by omega) w⟩
set_option maxRecDepth 100000 in
set_option maxHeartbeats 4000000 in
theorem nmul (a b:Int) (ha:fitsI a) (hb:fitsI b) (w:World) :
    Calls Tryz.prog 133 #[.int .i64 a,.int .i64 b] w fun e w'=>e=.returned (tellV (a * b))∧w'=w:=by
 obtain ⟨hi,lo,h1,h2,hC⟩:=halves a b w ha hb
 have hs:=sides a b
 have HA:=fun w=>nsize a ha w
 have HB:=fun w=>nsize b hb w
 obtain ⟨p,hp⟩:∃ p,a.natAbs * b.natAbs=p:=⟨_,rfl⟩
 obtain ⟨x,hx⟩:∃ x,((a.natAbs:Nat):Int)=x:=⟨_,rfl⟩
 obtain ⟨y,hy⟩:∃ y,((b.natAbs:Nat):Int)=y:=⟨_,rfl⟩
 rw [hx] at HA hC;rw [hy] at HB hC
 rw [hp] at h1 h2 hs
 by_cases hz:hi=0
 · have hlo:lo=p:=by omega
   have HS:=fun w=>nsigned lo (by omega) (by omega) (decide (a < 0) != decide (b < 0)) w
   rw [hlo,← hs] at HS
   rw [← hlo] at HS
   obtain ⟨T,E,hT⟩:=tell_form (a * b)
   rw [hT] at HS ⊢
   rw [show (decide (a < 0) != decide (b < 0))=(!(decide (a < 0) == decide (b < 0))) from rfl] at HS
   clear h1 h2 hs hp hx hy hlo
   go_enter Tryz.func133,Tryz.ntmps133
   go_wp2_with (first | (go_at_call_of 170 (Value.int .i64 a);(with_reducible refine (HA _).mono ?_);rintro e w' ⟨rfl,rfl⟩) | (go_at_call_of 170 (Value.int .i64 b);(with_reducible refine (HB _).mono ?_);rintro e w' ⟨rfl,rfl⟩) | (go_at_call 169;(with_reducible refine hC.mono ?_);rintro e w' ⟨rfl,rfl⟩) | (go_at_call 171;(with_reducible refine (HS _).mono ?_);rintro e w' ⟨rfl,rfl⟩) | fail)
   all_goals (go_ret2;exact ⟨rfl,rfl⟩)
 · have hover:¬ fitsI (a * b):=by
    rw [hs]
    split <;> (unfold fitsI;omega)
   rw [tell_over hover]
   clear h1 h2 hs hp hx hy hover
   go_enter Tryz.func133,Tryz.ntmps133
   go_wp2_with (first | (go_at_call_of 170 (Value.int .i64 a);(with_reducible refine (HA _).mono ?_);rintro e w' ⟨rfl,rfl⟩) | (go_at_call_of 170 (Value.int .i64 b);(with_reducible refine (HB _).mono ?_);rintro e w' ⟨rfl,rfl⟩) | (go_at_call 169;(with_reducible refine hC.mono ?_);rintro e w' ⟨rfl,rfl⟩) | (go_at_call 171;(with_reducible refine (HS _).mono ?_);rintro e w' ⟨rfl,rfl⟩) | fail)
   all_goals (go_ret2;exact ⟨rfl,rfl⟩)
def compsV:Array Value:=#[Value.func (Fn.func 193) #[] #[],Value.int IntKind.i64 0,Value.func (Fn.func 194) #[] #[],Value.int IntKind.i64 6,Value.func (Fn.func 195) #[] #[],Value.int IntKind.i64 5,Value.func (Fn.func 196) #[] #[],Value.int IntKind.i64 4,Value.func (Fn.func 197) #[] #[],Value.int IntKind.i64 3,Value.func (Fn.func 198) #[] #[],Value.int IntKind.i64 2,Value.func (Fn.func 199) #[] #[],Value.int IntKind.i64 1]
set_option maxRecDepth 100000 in
set_option maxHeartbeats 4000000 in
theorem all_any (w:World) :
    Calls Tryz.prog 173 #[] w fun e w'=>e=.returned (.agg compsV)∧∃ t,w'=w.alloc (.cells compsV t):=by
 have hsf:=fun (a:Addr) (k:Nat) (w:World)=>run_store Tryz.prog w a (.func (.func k) #[] #[]) .plain rfl
 go_enter Tryz.func173,Tryz.ntmps173
 go_wp2
 refine bodyPost_ret (results_cell_row rfl _ _ w.heap.size _ compsV _ _ rfl (heap_alloc_new w _) rfl rfl (by kernel_rfl)) rfl ?_
 exact ⟨rfl,_,rfl⟩
theorem heap_two (w:World) (A B:Obj):((w.alloc A).alloc B).heap[w.heap.size]?=some A:=by
 rw [heap_alloc_old _ _ (by show w.heap.size < (w.heap.push A).size;simp)]
 exact heap_alloc_new w A
def cmpB (op a b:Int):Bool :=
 if op=1 then decide (a < b) else if op=2 then decide (a≤b) else if op=3 then a == b else if op=4 then a != b else if op=5 then decide (b < a) else if op=6 then decide (b≤a) else false
def notI (op:Int):Int:=if 1≤op∧op≤6 then 7 - op else 0
theorem cmp_out {op:Int} (h0:op < 1 ∨ 6 < op) (a b:Int):cmpB op a b=false:=by
 unfold cmpB
 rw [if_neg (by omega),if_neg (by omega),if_neg (by omega),if_neg (by omega),if_neg (by omega),if_neg (by omega)]
theorem not_out {op:Int} (h0:op < 1 ∨ 6 < op):notI op=0:=by
 unfold notI
 rw [if_neg (by omega)]
set_option maxRecDepth 100000 in
set_option maxHeartbeats 4000000 in
theorem clos_0 (a b:Int) (w:World) :
    Calls Tryz.prog 193 #[.int .i64 a,.int .i64 b] w fun e w'=>e=.returned (.bool (false))∧w'=w:=by
 go_enter Tryz.func193,Tryz.ntmps193
 go_wp2
 all_goals (go_ret;exact ⟨rfl,rfl⟩)
set_option maxRecDepth 100000 in
set_option maxHeartbeats 4000000 in
theorem clos_1 (a b:Int) (w:World) :
    Calls Tryz.prog 194 #[.int .i64 a,.int .i64 b] w fun e w'=>e=.returned (.bool (decide (a < b)))∧w'=w:=by
 go_enter Tryz.func194,Tryz.ntmps194
 go_wp2
 all_goals (go_ret;exact ⟨rfl,rfl⟩)
set_option maxRecDepth 100000 in
set_option maxHeartbeats 4000000 in
theorem clos_2 (a b:Int) (w:World) :
    Calls Tryz.prog 195 #[.int .i64 a,.int .i64 b] w fun e w'=>e=.returned (.bool (decide (a≤b)))∧w'=w:=by
 go_enter Tryz.func195,Tryz.ntmps195
 go_wp2
 all_goals (go_ret;exact ⟨rfl,rfl⟩)
set_option maxRecDepth 100000 in
set_option maxHeartbeats 4000000 in
theorem clos_3 (a b:Int) (w:World) :
    Calls Tryz.prog 196 #[.int .i64 a,.int .i64 b] w fun e w'=>e=.returned (.bool (a == b))∧w'=w:=by
 go_enter Tryz.func196,Tryz.ntmps196
 go_wp2
 all_goals (go_ret;exact ⟨rfl,rfl⟩)
set_option maxRecDepth 100000 in
set_option maxHeartbeats 4000000 in
theorem clos_4 (a b:Int) (w:World) :
    Calls Tryz.prog 197 #[.int .i64 a,.int .i64 b] w fun e w'=>e=.returned (.bool (a != b))∧w'=w:=by
 go_enter Tryz.func197,Tryz.ntmps197
 go_wp2
 all_goals (go_ret;exact ⟨rfl,rfl⟩)
set_option maxRecDepth 100000 in
set_option maxHeartbeats 4000000 in
theorem clos_5 (a b:Int) (w:World) :
    Calls Tryz.prog 198 #[.int .i64 a,.int .i64 b] w fun e w'=>e=.returned (.bool (decide (b < a)))∧w'=w:=by
 go_enter Tryz.func198,Tryz.ntmps198
 go_wp2
 all_goals (go_ret;exact ⟨rfl,rfl⟩)
set_option maxRecDepth 100000 in
set_option maxHeartbeats 4000000 in
theorem clos_6 (a b:Int) (w:World) :
    Calls Tryz.prog 199 #[.int .i64 a,.int .i64 b] w fun e w'=>e=.returned (.bool (decide (b≤a)))∧w'=w:=by
 go_enter Tryz.func199,Tryz.ntmps199
 go_wp2
 all_goals (go_ret;exact ⟨rfl,rfl⟩)
open Go Go.RowKit Go.ChangeShapes
section
variable {H:Type} {enc:TypeId × Value→H} {P:Program} {w:World} {base:Nat} {held:Bool}
end
open Go Go.RowKit Go.ChangeShapes Go.Deep
inductive Ty | E | C | S | D deriving DecidableEq
inductive Nd where
 | mk (ty:Ty) (k n:Int) (s:ByteArray) (xs cs ts es:List Nd)
def Nd.ty:Nd→Ty | .mk ty _ _ _ _ _ _ _=>ty
def Ty.size:Ty→Nat | .E=>4 | .C=>4 | .S=>6 | .D=>2
def lay (ty:Ty) (k n:Int) (s:ByteArray) (vx vc vt ve:Value):List Value:=match ty with
 | .E=>[.int .i64 k,.int .i64 n,.string s,vx]
 | .C=>[.int .i64 k,.int .i64 n,vx,vc]
 | .S=>[.int .i64 k,.string s,vx,vc,vt,ve]
 | .D=>[.string s,.int .i64 n]
theorem lay_len (ty:Ty) (k n:Int) (s:ByteArray) (vx vc vt ve:Value):(lay ty k n s vx vc vt ve).length=ty.size:=by cases ty <;> rfl
def fits (ty:Ty) (k n:Int) (s:ByteArray) (xs cs ts es:List Nd):Prop:=match ty with
 | .E=>cs=[]∧ts=[]∧es=[]
 | .C=>s=⟨#[]⟩∧ts=[]∧es=[]
 | .S=>n=0
 | .D=>k=0∧xs=[]∧cs=[]∧ts=[]∧es=[]
def SlOf (len:Nat) (row:Nat→Nat→Prop) (v:Value):Prop:=∃ a c,v=.slice a len c∧len≤c∧c≤maxLen∧(len=0 ∨ ∃ b o,a=some ⟨b,o,none⟩∧row b o)
theorem SlOf.mono {len:Nat} {row row':Nat→Nat→Prop} {v:Value} (h:SlOf len row v) (hr:∀ b o,row b o→row' b o):SlOf len row' v:=by
 obtain ⟨a,c,h1,h2,h3,h4⟩:=h
 exact ⟨a,c,h1,h2,h3,h4.imp id fun ⟨b,o,h5,h6⟩=>⟨b,o,h5,hr b o h6⟩⟩
def i64ok (n:Int):Prop:=(Lit.int .i64 n).wf=true
mutual
def NdIn (w:World):Nd→List Value→Prop
 | .mk ty k n s xs cs ts es,vs=>fits ty k n s xs cs ts es∧i64ok k∧i64ok n∧s.size≤maxLen∧∃ vx vc vt ve,vs=lay ty k n s vx vc vt ve ∧
     SlOf xs.length (fun b o=>RowIn w .E xs b o) vx∧SlOf cs.length (fun b o=>RowIn w .C cs b o) vc∧SlOf ts.length (fun b o=>RowIn w .S ts b o) vt∧SlOf es.length (fun b o=>RowIn w .S es b o) ve
def RowIn (w:World):Ty→List Nd→Nat→Nat→Prop
 | _,[],_,_=>True
 | ty,x :: r,b,o=>(x.ty=ty∧∃ vs,(∀ j u,vs[j]?=some u→w.cell? ⟨b,o+j,none⟩=some u)∧NdIn w x vs)∧RowIn w ty r b (o+ty.size)
end
def SlIn (w:World) (ty:Ty) (l:List Nd) (v:Value):Prop:=SlOf l.length (fun b o=>RowIn w ty l b o) v
def Keeps (w w':World):Prop:=∀ b o u,w.cell? ⟨b,o,none⟩=some u→w'.cell? ⟨b,o,none⟩=some u
theorem keeps_below {w w':World} (hb:Below w.heap.size w w'):Keeps w w':=fun b o u h=>by
 have lt:=World.block_lt_of_cell? w ⟨b,o,none⟩ h
 exact (hb.cell (p:=⟨b,o,none⟩) lt).trans h
mutual
theorem NdIn.keep {w w':World} (hk:Keeps w w'):∀ (x:Nd) (vs:List Value),NdIn w x vs→NdIn w' x vs
 | .mk ty k n s xs cs ts es,vs,h=>by
   unfold NdIn at h ⊢
   obtain ⟨h1,h2,h3,h4,vx,vc,vt,ve,h5,hx,hc,ht,he⟩:=h
   exact ⟨h1,h2,h3,h4,vx,vc,vt,ve,h5,hx.mono (fun b o=>RowIn.keep hk .E xs b o),hc.mono (fun b o=>RowIn.keep hk .C cs b o),ht.mono (fun b o=>RowIn.keep hk .S ts b o),he.mono (fun b o=>RowIn.keep hk .S es b o)⟩
theorem RowIn.keep {w w':World} (hk:Keeps w w'):∀ (ty:Ty) (l:List Nd) (b o:Nat),RowIn w ty l b o→RowIn w' ty l b o
 | _,[],_,_,_=>by unfold RowIn;trivial
 | ty,x :: r,b,o,h=>by
   unfold RowIn at h ⊢
   obtain ⟨⟨h1,vs,h2,h3⟩,h4⟩:=h
   exact ⟨⟨h1,vs,fun j u hj=>hk _ _ _ (h2 j u hj),NdIn.keep hk x vs h3⟩,RowIn.keep hk ty r b (o+ty.size) h4⟩
end
theorem SlIn.keep {w w':World} {ty:Ty} {l:List Nd} {v:Value} (h:SlIn w ty l v) (hk:Keeps w w'):SlIn w' ty l v:=SlOf.mono h (fun b o=>RowIn.keep hk ty l b o)
theorem RowIn.at {w:World} {ty:Ty}:∀ (l:List Nd) (b o i:Nat) (h:i < l.length),RowIn w ty l b o→(l[i]).ty=ty∧∃ vs,(∀ j u,vs[j]?=some u→w.cell? ⟨b,o+i * ty.size+j,none⟩=some u)∧NdIn w l[i] vs
 | [],_,_,_,h,_=>by simp at h
 | x :: r,b,o,0,h,hr=>by
   unfold RowIn at hr
   obtain ⟨⟨h1,vs,h2,h3⟩,_⟩:=hr
   exact ⟨h1,vs,by simpa using h2,h3⟩
 | x :: r,b,o,i+1,h,hr=>by
   unfold RowIn at hr
   have:=RowIn.at r b (o+ty.size) i (by simpa using h) hr.2
   obtain ⟨h1,vs,h2,h3⟩:=this
   refine ⟨h1,vs,fun j u hj=>?_,h3⟩
   have e:=h2 j u hj
   rwa [show o+ty.size+i * ty.size+j=o+(i+1) * ty.size+j by rw [Nat.add_mul,Nat.one_mul];omega] at e
theorem RowIn.of {w:World} {ty:Ty}:∀ (l:List Nd) (b o:Nat),(∀ i (h:i < l.length),(l[i]).ty=ty∧∃ vs,(∀ j u,vs[j]?=some u→w.cell? ⟨b,o+i * ty.size+j,none⟩=some u)∧NdIn w l[i] vs)→RowIn w ty l b o
 | [],_,_,_=>by unfold RowIn;trivial
 | x :: r,b,o,h=>by
   unfold RowIn
   refine ⟨?_,RowIn.of r b (o+ty.size) (fun i hi=>?_)⟩
   · have:=h 0 (by simp)
     simpa using this
   · obtain ⟨h1,vs,h2,h3⟩:=h (i+1) (by simpa using hi)
     refine ⟨h1,vs,fun j u hj=>?_,h3⟩
     have e:=h2 j u hj
     rwa [show o+(i+1) * ty.size+j=o+ty.size+i * ty.size+j by rw [Nat.add_mul,Nat.one_mul];omega] at e
theorem NdIn.len {w:World} {x:Nd} {vs:List Value} (h:NdIn w x vs):vs.length=x.ty.size:=by
 obtain ⟨ty,k,n,s,xs,cs,ts,es⟩:=x
 unfold NdIn at h
 obtain ⟨_,_,_,_,vx,vc,vt,ve,rfl,_⟩:=h
 exact lay_len _ _ _ _ _ _ _ _
theorem slIn_nil (w:World) (ty:Ty):SlIn w ty [] (.slice none 0 0):=⟨none,0,rfl,Nat.le_refl _,Nat.zero_le _,.inl rfl⟩
def tyId:Ty→TypeId | .E=>142 | .C=>150 | .S=>57 | .D=>104
def slId:Ty→TypeId | .E=>54 | .C=>55 | .S=>23 | .D=>22
theorem slId_under (ty:Ty):Tryz.prog.underlying (slId ty)=some (.slice (tyId ty)):=by cases ty <;> kernel_rfl
theorem tyId_cells (ty:Ty):Tryz.prog.cellsOf (tyId ty)=ty.size:=by cases ty <;> kernel_rfl
theorem spot_none {w:World} {a:Addr} {u:Value} (h:w.cell? a=some u):a=⟨a.block,a.off,none⟩:=by
 cases hs:a.spot with
 | none=>cases a;simp_all
 | some s =>
   exfalso
   simp only [World.cell?] at h
   split at h
   · simp [hs] at h
   · cases h
theorem add_none (b o i:Nat):(⟨b,o,none⟩:Addr).add i=⟨b,o+i,none⟩:=by
 unfold Addr.add
 split <;> simp_all
section
variable {H:Type} {enc:TypeId × Value→H} {w:World} {base:Nat} {sp:Nat→Bool} {held:Bool}
theorem open_sl {ty:Ty} {fuel:Nat} {v:Value} {x:DataW H × List MemPlace} (hn:∀ n,n < fuel→∀ cs y,DataW.trod enc Tryz.prog w base sp held n (tyId ty) cs=some y→∃ d:Nd,d.ty=ty∧NdIn w d cs)
    (h:DataW.trod enc Tryz.prog w base sp held fuel (slId ty) [v]=some x):∃ l,SlIn w ty l v:=by
 rcases DataW.trod_slice (slId_under ty) h with ⟨h1,_⟩ | ⟨a,len,cap,elems,rest,n,hf,h1,_,hb,hl,hc,hlen,hel,_⟩
 · obtain rfl:v=.slice none 0 0:=by simpa using h1
   exact ⟨[],slIn_nil w ty⟩
 · obtain rfl:v=.slice (some a) len cap:=by simpa using h1
   rw [tyId_cells] at hel
   have hex:∀ i,i < len→∃ d:Nd,d.ty=ty∧∃ cs,w.cells? base (a.add (i * ty.size)) ty.size=some cs∧NdIn w d cs:=fun i hi=>by
    have:=hel i hi
    rw [List.getElem?_eq_getElem (by omega)] at this
    simp only [Option.bind_eq_some_iff] at this
    obtain ⟨cs,hcs,hy⟩:=this
    obtain ⟨d,hd1,hd2⟩:=hn n (by omega) cs _ hy
    exact ⟨d,hd1,cs,hcs,hd2⟩
   haveI:Inhabited Nd:=⟨.mk .E 0 0 ⟨#[]⟩ [] [] [] []⟩
   obtain ⟨f,hfn⟩:=choose_lt hex
   refine ⟨(List.range len).map f,some a,cap,by simp,by simpa using hl,hc,?_⟩
   by_cases h0:len=0
   · exact .inl (by simpa using h0)
   · right
     have hsp:a=⟨a.block,a.off,none⟩:=by
      obtain ⟨_,cs,hcs,_⟩:=hfn 0 (by omega)
      rw [Nat.zero_mul] at hcs
      have hpos:0 < ty.size:=by cases ty <;> decide
      obtain ⟨_,_,hat⟩:=World.cells?_some hcs
      have h2:=hat 0 hpos
      have hl2:cs.length=ty.size:=by obtain ⟨_,h,_⟩:=World.cells?_some hcs;exact h
      rw [List.getElem?_eq_getElem (by omega)] at h2
      simp only [Addr.add,if_true] at h2
      exact spot_none h2
     refine ⟨a.block,a.off,by rw [← hsp],RowIn.of _ _ _ (fun i hi=>?_)⟩
     simp only [List.length_map,List.length_range] at hi
     obtain ⟨hd,cs,hcs,hin⟩:=hfn i hi
     simp only [List.getElem_map,List.getElem_range]
     refine ⟨hd,cs,fun j u hj=>?_,hin⟩
     obtain ⟨_,hcl,hat⟩:=World.cells?_some hcs
     have hj2:j < ty.size:=by
      have:=(List.getElem?_eq_some_iff.1 hj).1
      omega
     have h3:=hat j hj2
     rw [hj] at h3
     rw [hsp,add_none,add_none] at h3
     exact h3
theorem i64_of {n:Nat} {t:TypeId} {v:Value} {y:DataW H × List MemPlace} (ht:Tryz.prog.underlying t=some (.int .i64)) (h:DataW.trod enc Tryz.prog w base sp held n t [v]=some y):∃ k:Int,v=.int .i64 k∧i64ok k:=by
 obtain ⟨k,h1,_,h2⟩:=DataW.trod_int ht h
 exact ⟨k,by simpa using h1,h2⟩
theorem str_of {n:Nat} {v:Value} {y:DataW H × List MemPlace} (h:DataW.trod enc Tryz.prog w base sp held n 9 [v]=some y):∃ s:ByteArray,v=.string s∧s.size≤maxLen:=by
 obtain ⟨s,h1,_,h2⟩:=DataW.trod_string (by kernel_rfl) h
 exact ⟨s,by simpa using h1,h2⟩
theorem ok0:i64ok 0:=by unfold i64ok;decide
theorem sl0 (w:World) (ty:Ty):SlOf ([]:List Nd).length (fun b o=>RowIn w ty [] b o) (.slice none 0 0):=slIn_nil w ty
theorem len2 {α:Type} {l:List α} (h:l.length=2):∃ a b,l=[a,b]:=by
 match l,h with
 | [a,b],_=>exact ⟨a,b,rfl⟩
theorem len4 {α:Type} {l:List α} (h:l.length=4):∃ a b c d,l=[a,b,c,d]:=by
 match l,h with
 | [a,b,c,d],_=>exact ⟨a,b,c,d,rfl⟩
theorem len6 {α:Type} {l:List α} (h:l.length=6):∃ a b c d e f,l=[a,b,c,d,e,f]:=by
 match l,h with
 | [a,b,c,d,e,f],_=>exact ⟨a,b,c,d,e,f,rfl⟩
theorem one_cell {n:Nat} {cs:List Value} {t:TypeId} {off:Nat} {r:Option (DataW H × List MemPlace)} {y:DataW H × List MemPlace} {c:Value} (hk:Tryz.prog.cellsOf t=1) (hc:cs[off]?=some c) (hr:r=some y)
    (h:DataW.trod enc Tryz.prog w base sp held n t ((cs.drop off).take (Tryz.prog.cellsOf t))=r):DataW.trod enc Tryz.prog w base sp held n t [c]=some y:=by
 rw [hk,hr] at h
 have e:(cs.drop off).take 1=[c]:=by
  obtain ⟨hl,he⟩:=List.getElem?_eq_some_iff.1 hc
  rw [List.drop_eq_getElem_cons hl,he]
  rfl
 rwa [e] at h
theorem open_nd:∀ (fuel:Nat) (ty:Ty) (cs:List Value) (y:DataW H × List MemPlace),DataW.trod enc Tryz.prog w base sp held fuel (tyId ty) cs=some y→∃ d:Nd,d.ty=ty∧NdIn w d cs:=by
 intro fuel
 induction fuel using Nat.strongRecOn with
 | ind fuel ih =>
   intro ty cs y h
   have hsl:∀ (n:Nat),n < fuel→∀ (ty':Ty) (v:Value) (x:DataW H × List MemPlace),DataW.trod enc Tryz.prog w base sp held n (slId ty') [v]=some x→∃ l,SlIn w ty' l v:=fun n hn ty' v x hx =>
    open_sl (fun m hm cs y hy=>ih m (by omega) ty' cs y hy) hx
   cases ty with
   | E =>
     obtain ⟨xs,n,rfl,_,hl,hxs,hf⟩:=DataW.trod_struct Tryz.underlying142 h
     have hl4:cs.length=4:=hl.trans (by kernel_rfl)
     obtain ⟨c0,c1,c2,c3,rfl⟩:=len4 hl4
     obtain ⟨y0,y1,y2,y3,rfl⟩:=len4 (hxs.trans (by rfl))
     obtain ⟨k,rfl,hk⟩:=i64_of (by kernel_rfl) (one_cell (c:=c0) (by kernel_rfl) rfl rfl (hf 0 _ rfl))
     obtain ⟨m,rfl,hm⟩:=i64_of (by kernel_rfl) (one_cell (c:=c1) (by kernel_rfl) rfl rfl (hf 1 _ rfl))
     obtain ⟨s,rfl,hs⟩:=str_of (one_cell (c:=c2) (by kernel_rfl) rfl rfl (hf 2 _ rfl))
     obtain ⟨l,hlst⟩:=hsl n (by omega) .E c3 _ (one_cell (c:=c3) (by kernel_rfl) rfl rfl (hf 3 _ rfl))
     refine ⟨.mk .E k m s l [] [] [],rfl,?_⟩
     unfold NdIn
     exact ⟨⟨rfl,rfl,rfl⟩,hk,hm,hs,c3,_,_,_,rfl,hlst,sl0 w .C,sl0 w .S,sl0 w .S⟩
   | C =>
     obtain ⟨xs,n,rfl,_,hl,hxs,hf⟩:=DataW.trod_struct Tryz.underlying150 h
     have hl4:cs.length=4:=hl.trans (by kernel_rfl)
     obtain ⟨c0,c1,c2,c3,rfl⟩:=len4 hl4
     obtain ⟨y0,y1,y2,y3,rfl⟩:=len4 (hxs.trans (by rfl))
     obtain ⟨k,rfl,hk⟩:=i64_of (by kernel_rfl) (one_cell (c:=c0) (by kernel_rfl) rfl rfl (hf 0 _ rfl))
     obtain ⟨m,rfl,hm⟩:=i64_of (by kernel_rfl) (one_cell (c:=c1) (by kernel_rfl) rfl rfl (hf 1 _ rfl))
     obtain ⟨l,hlst⟩:=hsl n (by omega) .E c2 _ (one_cell (c:=c2) (by kernel_rfl) rfl rfl (hf 2 _ rfl))
     obtain ⟨l2,hlst2⟩:=hsl n (by omega) .C c3 _ (one_cell (c:=c3) (by kernel_rfl) rfl rfl (hf 3 _ rfl))
     refine ⟨.mk .C k m ⟨#[]⟩ l l2 [] [],rfl,?_⟩
     unfold NdIn
     exact ⟨⟨rfl,rfl,rfl⟩,hk,hm,Nat.zero_le _,c2,c3,_,_,rfl,hlst,hlst2,sl0 w .S,sl0 w .S⟩
   | S =>
     obtain ⟨xs,n,rfl,_,hl,hxs,hf⟩:=DataW.trod_struct Tryz.underlying57 h
     have hl4:cs.length=6:=hl.trans (by kernel_rfl)
     obtain ⟨c0,c1,c2,c3,c4,c5,rfl⟩:=len6 hl4
     obtain ⟨y0,y1,y2,y3,y4,y5,rfl⟩:=len6 (hxs.trans (by rfl))
     obtain ⟨k,rfl,hk⟩:=i64_of (by kernel_rfl) (one_cell (c:=c0) (by kernel_rfl) rfl rfl (hf 0 _ rfl))
     obtain ⟨s,rfl,hs⟩:=str_of (one_cell (c:=c1) (by kernel_rfl) rfl rfl (hf 1 _ rfl))
     obtain ⟨l,hlst⟩:=hsl n (by omega) .E c2 _ (one_cell (c:=c2) (by kernel_rfl) rfl rfl (hf 2 _ rfl))
     obtain ⟨l2,hlst2⟩:=hsl n (by omega) .C c3 _ (one_cell (c:=c3) (by kernel_rfl) rfl rfl (hf 3 _ rfl))
     obtain ⟨l3,hlst3⟩:=hsl n (by omega) .S c4 _ (one_cell (c:=c4) (by kernel_rfl) rfl rfl (hf 4 _ rfl))
     obtain ⟨l4,hlst4⟩:=hsl n (by omega) .S c5 _ (one_cell (c:=c5) (by kernel_rfl) rfl rfl (hf 5 _ rfl))
     refine ⟨.mk .S k 0 s l l2 l3 l4,rfl,?_⟩
     unfold NdIn
     exact ⟨rfl,hk,ok0,hs,c2,c3,c4,c5,rfl,hlst,hlst2,hlst3,hlst4⟩
   | D =>
     obtain ⟨xs,n,rfl,_,hl,hxs,hf⟩:=DataW.trod_struct Tryz.underlying104 h
     have hl4:cs.length=2:=hl.trans (by kernel_rfl)
     obtain ⟨c0,c1,rfl⟩:=len2 hl4
     obtain ⟨y0,y1,rfl⟩:=len2 (hxs.trans (by rfl))
     obtain ⟨s,rfl,hs⟩:=str_of (one_cell (c:=c0) (by kernel_rfl) rfl rfl (hf 0 _ rfl))
     obtain ⟨m,rfl,hm⟩:=i64_of (by kernel_rfl) (one_cell (c:=c1) (by kernel_rfl) rfl rfl (hf 1 _ rfl))
     refine ⟨.mk .D 0 m s [] [] [] [],rfl,?_⟩
     unfold NdIn
     exact ⟨⟨rfl,rfl,rfl,rfl,rfl⟩,ok0,hm,hs,_,_,_,_,rfl,sl0 w .E,sl0 w .C,sl0 w .S,sl0 w .S⟩
theorem open_list {ty:Ty} {fuel:Nat} {v:Value} {x:DataW H × List MemPlace} (h:DataW.trod enc Tryz.prog w base sp held fuel (slId ty) [v]=some x):∃ l,SlIn w ty l v :=
 open_sl (fun n _ cs y hy=>open_nd n ty cs y hy) h
end
def Blk (w:World) (b:Nat) (cs:Array Value) (t:TypeId):Prop:=w.heap[b]?=some (.cells cs t (0,0))
theorem Blk.lt {w:World} {b:Nat} {cs:Array Value} {t:TypeId} (h:Blk w b cs t):b < w.heap.size:=(Array.getElem?_eq_some_iff.1 h).1
theorem Blk.cell {w:World} {b:Nat} {cs:Array Value} {t:TypeId} (h:Blk w b cs t) (o:Nat):w.cell? ⟨b,o,none⟩=cs[o]?:=by
 unfold Blk at h
 simp [World.cell?,h]
theorem Blk.free {w:World} {b:Nat} {cs:Array Value} {t:TypeId} (h:Blk w b cs t) (o:Nat):w.frozen? ⟨b,o,none⟩=false:=by
 unfold Blk at h
 simp [World.frozen?,h]
theorem Blk.set {w:World} {b:Nat} {cs:Array Value} {t:TypeId} (h:Blk w b cs t) (o:Nat) (u:Value):Blk (w.setCell ⟨b,o,none⟩ u) b (cs.setIfInBounds o u) t:=by
 have hlt:=h.lt
 have h':w.heap[b]=.cells cs t (0,0):=by unfold Blk at h;simpa [Array.getElem?_eq_getElem hlt] using h
 show (w.heap.modify b _)[b]?=_
 rw [Array.getElem?_eq_getElem (by simpa using hlt),Array.getElem_modify_self,h']
 rfl
theorem Blk.other {w:World} {b:Nat} {cs:Array Value} {t:TypeId} (h:Blk w b cs t) {a:Addr} (ha:b ≠ a.block) (u:Value):Blk (w.setCell a u) b cs t :=
 (Below.heap_setCell w a u b ha).trans h
theorem Blk.new (w:World) (cs:Array Value) (t:TypeId):Blk (w.alloc (.cells cs t)) w.heap.size cs t:=World.alloc_heap_new w _
theorem Blk.alloc {w:World} {b:Nat} {cs:Array Value} {t:TypeId} (h:Blk w b cs t) (o:Obj):Blk (w.alloc o) b cs t:=(Below.heap_alloc w o b h.lt).trans h
theorem Blk.below {B:Nat} {w w':World} {b:Nat} {cs:Array Value} {t:TypeId} (h:Blk w b cs t) (hb:Below B w w') (hB:b < B):Blk w' b cs t:=(hb.block b hB).trans h
structure Only (B:Nat) (w w':World):Prop where
 os:w'.os=w.os
 tape:w'.tape=w.tape
 output:w'.output=w.output
 size:w.heap.size≤w'.heap.size
 block:∀ k,k < w.heap.size→k ≠ B→w'.heap[k]?=w.heap[k]?
theorem Only.refl (B:Nat) (w:World):Only B w w:=⟨rfl,rfl,rfl,Nat.le_refl _,fun _ _ _=>rfl⟩
theorem Only.trans {B:Nat} {a b c:World} (h:Only B a b) (k:Only B b c):Only B a c :=
 ⟨k.os.trans h.os,k.tape.trans h.tape,k.output.trans h.output,Nat.le_trans h.size k.size,fun i hi hn=>(k.block i (Nat.lt_of_lt_of_le hi h.size) hn).trans (h.block i hi hn)⟩
theorem Only.below {B:Nat} {w w':World} (h:Below w.heap.size w w'):Only B w w':=⟨h.os,h.tape,h.output,h.size,fun k hk _=>h.block k hk⟩
theorem Only.alloc {B:Nat} {a w:World} (h:Only B a w) (o:Obj):Only B a (w.alloc o):=h.trans (Only.below ((Below.refl _ w).alloc (Nat.le_refl _) o))
theorem Only.setCell {B:Nat} {a w:World} (h:Only B a w) {p:Addr} (hp:p.block=B) (u:Value):Only B a (w.setCell p u) :=
 h.trans ⟨((Below.refl 0 w).setCell (Nat.zero_le _) u).os,((Below.refl 0 w).setCell (Nat.zero_le _) u).tape,((Below.refl 0 w).setCell (Nat.zero_le _) u).output,((Below.refl 0 w).setCell (Nat.zero_le _) u).size,fun k _ hn=>Below.heap_setCell w p u k (by rw [hp];exact hn)⟩
theorem Only.old {B B0:Nat} {w w':World} (h:Only B w w') (h0:B0≤B) (h1:B0≤w.heap.size):Below B0 w w':=⟨h.os,h.tape,h.output,h.size,fun k hk=>h.block k (by omega) (by omega)⟩
theorem Blk.only {B:Nat} {w w':World} {b:Nat} {cs:Array Value} {t:TypeId} (h:Blk w b cs t) (ho:Only B w w') (hb:b ≠ B):Blk w' b cs t:=(ho.block b h.lt hb).trans h
def Nd.xs:Nd→List Nd | .mk _ _ _ _ xs _ _ _=>xs
def Nd.cs:Nd→List Nd | .mk _ _ _ _ _ cs _ _=>cs
def Nd.ts:Nd→List Nd | .mk _ _ _ _ _ _ ts _=>ts
def Nd.es:Nd→List Nd | .mk _ _ _ _ _ _ _ es=>es
end Go.Proofs.YtmohmggnjldddaaGreatDoor
