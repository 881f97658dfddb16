/-
  Package step's values: value, give: proved is what they answer, of rows in whatever memory.
-/
import Derived.Test.YtmohmggnjldddaaGreatDoorQCfgA
import Derived.Test.YtmohmggnjldddaaGreatDoorQRunC
import Derived.ChangeKeysEq
import Derived.Laws.StructEq
import Derived.Deep.RegionHeld3
import Derived.Deep.AppendLies
import Derived.Laws.Entries
import Derived.Test.YtmohmggnjldddaaGreatDoorQCfgF
import Derived.BigQuiet
import Derived.Deep.QuietTactic
import Derived.Deep.DeepCutAuto
import Derived.Test.YtmohmggnjldddaaGreatDoorQAbb
namespace Go.Proofs.YtmohmggnjldddaaGreatDoor
set_option maxHeartbeats 4000000
set_option maxRecDepth 100000
open Go Go.RowKit Go.Maps
theorem among_any (i n:Int) (w:World):Calls Tryz.prog 80 #[.int .i64 i,.int .i64 n] w (fun e w'=>e=.returned (.bool (amg i n))∧w'=w):=by
 unfold amg
 cases h1:decide (0≤i)<;>cases h2:decide (i<n)
 all_goals (go_enter Tryz.func80,Tryz.ntmps80;go_wp2_with fail;go_ret;exact ⟨rfl,rfl⟩)
theorem place_any (has:Bool) (i n:Int) (w:World):Calls Tryz.prog 123 #[.bool has,.int .i64 i,.int .i64 n] w (fun e w'=>e=.returned (.bool (plc has i n))∧w'=w):=by
 have HA:=fun w=>among_any i n w
 unfold plc
 cases has
 · simp only [Bool.false_eq_true,if_false]
   go_enter Tryz.func123,Tryz.ntmps123
   go_wp2_with fail
   go_ret
   exact ⟨rfl,rfl⟩
 · simp only [if_true]
   obtain ⟨B,hB⟩:∃ b,amg i n=b:=⟨_,rfl⟩
   rw [hB] at HA ⊢
   clear hB
   go_enter Tryz.func123,Tryz.ntmps123
   go_wp2_with (first | (go_at_call 80;(with_reducible refine (HA _).mono ?_);rintro e w2 ⟨rfl,rfl⟩) | fail)
   go_ret
   exact ⟨rfl,rfl⟩
theorem gcompares_any (has:Bool) (op:Int) (w:World):Calls Tryz.prog 125 #[.bool has,.int .i64 op] w (fun e w'=>e=.returned (.bool (cmps has op))∧w'=w):=by
 unfold cmps
 cases has
 · simp only [Bool.false_eq_true,if_false]
   go_enter Tryz.func125,Tryz.ntmps125
   go_wp2_with fail
   go_ret
   exact ⟨rfl,rfl⟩
 · simp only [if_true]
   cases h1:decide (1≤op)<;>cases h2:decide (op≤6)
   all_goals (go_enter Tryz.func125,Tryz.ntmps125;go_wp2_with fail;go_ret;exact ⟨rfl,rfl⟩)
theorem hasSize_any (s:ByteArray) (n:Int) (w:World):Calls Tryz.prog 79 #[.agg #[.string s,.int .i64 n]] w (fun e w'=>e=.returned (.bool (decide (1≤n)&&decide (n≤1024)))∧Below w.heap.size w w'):=by
 cases h1:decide (1≤n)<;>cases h2:decide (n≤1024)
 all_goals (go_enter Tryz.func79,Tryz.ntmps79;go_wp2_with fail;go_ret;exact ⟨rfl,(Below.refl w.heap.size w).alloc (Nat.le_refl _) _⟩)
abbrev grS (g:Gf) (av:Option Addr) (cv:Nat) (aa:Option Addr) (ca:Nat) (ae:Option Addr) (ce:Nat):Value:=.agg #[.slice av g.vs.length cv,.int .i64 g.tmp,.slice aa g.ar.length ca,.int .i64 g.pts,.int .i64 g.ext,.slice ae g.es.length ce]
abbrev grB (g:Gf) (av:Option Addr) (cv:Nat) (aa:Option Addr) (ca:Nat) (ae:Option Addr) (ce:Nat):Array Value:=#[.slice av g.vs.length cv,.int .i64 g.tmp,.slice aa g.ar.length ca,.int .i64 g.pts,.int .i64 g.ext,.slice ae g.es.length ce]
theorem variables_any (g:Gf) (av aa ae:Option Addr) (cv ca ce:Nat) (h0:0≤g.nv) (h1:g.nv≤1099511627776) (w:World):Calls Tryz.prog 124 #[grS g av cv aa ca ae ce] w (fun e w'=>e=.returned (.int .i64 g.nv)∧Below w.heap.size w w'):=by
 have hw:IntKind.i64.wrap ((g.vs.length:Int)+g.tmp)=g.nv:=fits_wrap (by unfold fitsI;unfold Gf.nv at h0 h1;omega)
 clear h0 h1
 go_enter Tryz.func124,Tryz.ntmps124
 go_wp2_with fail
 go_ret
 exact ⟨rfl,(Below.refl w.heap.size w).alloc (Nat.le_refl _) _⟩
theorem ditem_at {w:World} {l:List Nd} {b o:Nat} (hr:RowIn w .D l b o) (i:Nat) (hi:i<l.length):w.cell? ⟨b,o+i * 2,none⟩=some (.string (dNm l[i]))∧w.cell? ⟨b,o+i * 2+1,none⟩=some (.int .i64 (dSz l[i])):=by
 obtain ⟨hty,vs,hc,hnd⟩:=RowIn.at l b o i hi hr
 obtain ⟨x,hx⟩:∃ x,l[i]=x:=⟨_,rfl⟩
 rw [hx] at hty hnd ⊢
 obtain ⟨ty,k,n,nm,xs,cs,ts,es⟩:=x
 simp only [Nd.ty] at hty
 subst hty
 unfold NdIn at hnd
 obtain ⟨_,_,_,_,vx,vc,vt,ve,rfl,_⟩:=hnd
 exact ⟨hc 0 _ rfl,hc 1 _ rfl⟩
theorem all_drop {α:Type} (p:α→Bool) (l:List α) (i:Nat) (h:i<l.length):(l.drop i).all p=(p l[i]&&(l.drop (i+1)).all p):=by
 rw [List.drop_eq_getElem_cons h,List.all_cons]
theorem all_decl (l:List Nd) (v:Value) (w:World) (h:SlIn w .D l v):Calls Tryz.prog 78 #[v,.func (.func 79) #[] #[]] w (fun e w'=>e=.returned (.bool (l.all szD))∧Below w.heap.size w w'):=by
 obtain ⟨a,c,rfl,hlc,hcm,hrow⟩:=h
 have HR:=zh hrow
 have hb63:(l.length:Int)≤9223372036854775807:=by unfold maxLen at hcm;omega
 obtain ⟨R,hR⟩:∃ R,l.all szD=R:=⟨_,rfl⟩
 rw [hR]
 have hR0:R=(l.drop 0).all szD:=by rw [List.drop_zero];exact hR.symm
 clear hrow hlc hcm hR
 go_enter Tryz.func78,Tryz.ntmps78
 go_wp2_with fail
 go_loopw [9] (fun x wr=>∃ i:Nat,x=.int .i64 i∧i≤l.length∧R=(l.drop i).all szD∧Below w.heap.size w wr) (fun x _=>l.length - (intOf x).toNat)
 case atStart=>exact ⟨0,rfl,by omega,hR0,Below.refl _ _⟩
 case round =>
  obtain ⟨i,rfl,hi,hRi,hbr⟩:=hrel
  clear hR0
  have HBR:=zh hbr
  by_cases hlt:i<l.length
  · have hbi:(i:Int)+1≤9223372036854775807:=by omega
    obtain ⟨b,o,rfl,hrw⟩:=HR.out.resolve_left (by omega)
    obtain ⟨k0,k1⟩:=ditem_at hrw i hlt
    have m0:=keeps_below hbr _ _ _ k0
    have m1:=keeps_below hbr _ _ _ k1
    rw [all_drop szD l i hlt] at hRi
    have hsz:szD l[i]=(decide (1≤dSz l[i])&&decide (dSz l[i]≤1024)):=rfl
    obtain ⟨N,hN⟩:∃ N,dNm l[i]=N:=⟨_,rfl⟩
    obtain ⟨Z,hZ⟩:∃ Z,dSz l[i]=Z:=⟨_,rfl⟩
    rw [hN] at m0
    rw [hZ] at m1 hsz
    have HS:=fun w=>hasSize_any N Z w
    rw [← hsz] at HS
    obtain ⟨B,hB⟩:∃ B,szD l[i]=B:=⟨_,rfl⟩
    rw [hB] at hRi HS
    have HRI:=zh hRi
    clear hbr hrw k0 k1 hsz hN hZ hB hRi
    cases B with
    | false =>
      go_wp2_with (first | (go_at_call 79;(with_reducible refine (HS _).mono ?_);rintro e w2 ⟨rfl,hb2⟩) | fail)
      go_ret
      exact ⟨by rw [HRI.out];rfl,(HBR.out.alloc HBR.out.size _).trans (hb2.mono (HBR.out.alloc HBR.out.size _).size)⟩
    | true =>
      go_wp2_with (first | (go_at_call 79;(with_reducible refine (HS _).mono ?_);rintro e w2 ⟨rfl,hb2⟩) | fail)
      go_roundw
      case rel=>exact ⟨i+1,by go_num,by omega,by rw [HRI.out];rfl,(HBR.out.alloc HBR.out.size _).trans (hb2.mono (HBR.out.alloc HBR.out.size _).size)⟩
      case measure=>simp [intOf];omega
  · obtain rfl:i=l.length:=by omega
    clear hbr
    go_wp2_with fail
    go_ret
    exact ⟨by rw [hRi,List.drop_length];rfl,HBR.out⟩
open Go Go.RowKit
theorem cnot_0 (op:Int) (h0:op<1∨6<op) (w:World) :
    Calls Tryz.prog 168 #[.int .i64 op] w fun e w'=>e=.returned (.int .i64 0)∧Below w.heap.size w w':=by
 have HC:=fun w=>ofb_0 op h0 w
 have HF:∀ (x y:Value) (w:World),(Instr.field 205 (.agg #[x,y]) 1).run Tryz.prog w=.ok y w:=fun x y w=>by rfl
 go_enter Tryz.func168,Tryz.ntmps168
 go_wp2_with (first | (go_at_call 137;(with_reducible refine (HC _).mono ?_);rintro e w' ⟨rfl,hg⟩) | fail)
 all_goals (go_ret;exact ⟨rfl,hg⟩)
theorem cnot_1 (w:World) :
    Calls Tryz.prog 168 #[.int .i64 1] w fun e w'=>e=.returned (.int .i64 6)∧Below w.heap.size w w':=by
 have HC:=fun w=>ofb_1 w
 have HF:∀ (x y:Value) (w:World),(Instr.field 205 (.agg #[x,y]) 1).run Tryz.prog w=.ok y w:=fun x y w=>by rfl
 go_enter Tryz.func168,Tryz.ntmps168
 go_wp2_with (first | (go_at_call 137;(with_reducible refine (HC _).mono ?_);rintro e w' ⟨rfl,hg⟩) | fail)
 all_goals (go_ret;exact ⟨rfl,hg⟩)
theorem cnot_2 (w:World) :
    Calls Tryz.prog 168 #[.int .i64 2] w fun e w'=>e=.returned (.int .i64 5)∧Below w.heap.size w w':=by
 have HC:=fun w=>ofb_2 w
 have HF:∀ (x y:Value) (w:World),(Instr.field 205 (.agg #[x,y]) 1).run Tryz.prog w=.ok y w:=fun x y w=>by rfl
 go_enter Tryz.func168,Tryz.ntmps168
 go_wp2_with (first | (go_at_call 137;(with_reducible refine (HC _).mono ?_);rintro e w' ⟨rfl,hg⟩) | fail)
 all_goals (go_ret;exact ⟨rfl,hg⟩)
theorem cnot_3 (w:World) :
    Calls Tryz.prog 168 #[.int .i64 3] w fun e w'=>e=.returned (.int .i64 4)∧Below w.heap.size w w':=by
 have HC:=fun w=>ofb_3 w
 have HF:∀ (x y:Value) (w:World),(Instr.field 205 (.agg #[x,y]) 1).run Tryz.prog w=.ok y w:=fun x y w=>by rfl
 go_enter Tryz.func168,Tryz.ntmps168
 go_wp2_with (first | (go_at_call 137;(with_reducible refine (HC _).mono ?_);rintro e w' ⟨rfl,hg⟩) | fail)
 all_goals (go_ret;exact ⟨rfl,hg⟩)
theorem cnot_4 (w:World) :
    Calls Tryz.prog 168 #[.int .i64 4] w fun e w'=>e=.returned (.int .i64 3)∧Below w.heap.size w w':=by
 have HC:=fun w=>ofb_4 w
 have HF:∀ (x y:Value) (w:World),(Instr.field 205 (.agg #[x,y]) 1).run Tryz.prog w=.ok y w:=fun x y w=>by rfl
 go_enter Tryz.func168,Tryz.ntmps168
 go_wp2_with (first | (go_at_call 137;(with_reducible refine (HC _).mono ?_);rintro e w' ⟨rfl,hg⟩) | fail)
 all_goals (go_ret;exact ⟨rfl,hg⟩)
theorem cnot_5 (w:World) :
    Calls Tryz.prog 168 #[.int .i64 5] w fun e w'=>e=.returned (.int .i64 2)∧Below w.heap.size w w':=by
 have HC:=fun w=>ofb_5 w
 have HF:∀ (x y:Value) (w:World),(Instr.field 205 (.agg #[x,y]) 1).run Tryz.prog w=.ok y w:=fun x y w=>by rfl
 go_enter Tryz.func168,Tryz.ntmps168
 go_wp2_with (first | (go_at_call 137;(with_reducible refine (HC _).mono ?_);rintro e w' ⟨rfl,hg⟩) | fail)
 all_goals (go_ret;exact ⟨rfl,hg⟩)
theorem cnot_6 (w:World) :
    Calls Tryz.prog 168 #[.int .i64 6] w fun e w'=>e=.returned (.int .i64 1)∧Below w.heap.size w w':=by
 have HC:=fun w=>ofb_6 w
 have HF:∀ (x y:Value) (w:World),(Instr.field 205 (.agg #[x,y]) 1).run Tryz.prog w=.ok y w:=fun x y w=>by rfl
 go_enter Tryz.func168,Tryz.ntmps168
 go_wp2_with (first | (go_at_call 137;(with_reducible refine (HC _).mono ?_);rintro e w' ⟨rfl,hg⟩) | fail)
 all_goals (go_ret;exact ⟨rfl,hg⟩)
theorem cnot_any (op:Int) (w:World):Calls Tryz.prog 168 #[.int .i64 op] w fun e w'=>e=.returned (.int .i64 (notI op))∧Below w.heap.size w w':=by
 by_cases h0:op<1∨6<op
 · rw [not_out h0]
   exact cnot_0 op h0 w
 · have hc:op=1∨op=2∨op=3∨op=4∨op=5∨op=6:=by omega
   rcases hc with rfl | rfl | rfl | rfl | rfl | rfl
   · exact cnot_1 w
   · exact cnot_2 w
   · exact cnot_3 w
   · exact cnot_4 w
   · exact cnot_5 w
   · exact cnot_6 w
theorem eq_iK {P:Program} {t:TypeId} {q:IntKind} (hu:P.underlying t=some (.int q)) (d:Nat) (a b:Int) (w:World):(Op.equalIn (d+1) t (.int q a) (.int q b)).run P w=.ok (a==b) w:=by
 simp [Op.equalIn,run_underlying hu]
theorem eq_opnd (a b a' b':Int) (w:World) :
    (binOp .eql 38 (.agg #[.int .i64 a,.int .i64 b]) (.agg #[.int .i64 a',.int .i64 b'])).run Tryz.prog w=.ok (.bool ((a==a')&&(b==b'))) w:=by
 have h5:Tryz.prog.underlying 3=some (.int .i64):=by kernel_rfl
 have h6:Tryz.prog.underlying 2=some (.int .i64):=by kernel_rfl
 have hst:Tryz.prog.stoodInHeld 38=false:=by kernel_rfl
 have hft:Tryz.prog.underlying 38=some (.struct (Tryz.prog.fieldsOf 38)):=by kernel_rfl
 have hfs : (Tryz.prog.fieldsOf 38).toList.map (fun f => (f.name, f.type, f.offset)) = [("Var", 3, 0), ("Num", 2, 1)] := by kernel_rfl
 simp only [binOp,Op.equal,Op.maxDepth,Sem.run_bind]
 rw [show (10000:Nat)=9999+1 from rfl,run_equalIn_struct _ _ _ _ _ hft hst]
 obtain ⟨fs,hfs0⟩:∃ fs,(Tryz.prog.fieldsOf 38).toList=fs:=⟨_,rfl⟩
 rw [hfs0] at hfs ⊢
 clear hfs0 hft hst
 obtain ⟨f0,fs,rfl,hf0,hfs⟩:=List.map_eq_cons_iff.1 hfs
 obtain ⟨f1,fs,rfl,hf1,hfs⟩:=List.map_eq_cons_iff.1 hfs
 obtain rfl:=List.map_eq_nil_iff.1 hfs
 simp only [Prod.mk.injEq] at hf0 hf1
 obtain ⟨n0,t0,o0⟩:=hf0
 obtain ⟨n1,t1,o1⟩:=hf1
 have m0 : ("Var" : String) ≠ "_" := by decide
 have m1 : ("Num" : String) ≠ "_" := by decide
 have q0:∀ w,(part 3 #[Value.int .i64 a,.int .i64 b] 0).run Tryz.prog w=.ok (.int .i64 a) w:=fun w=>by simp [part,isAgg,run_underlying h5]
 have q1:∀ w,(part 2 #[Value.int .i64 a,.int .i64 b] 1).run Tryz.prog w=.ok (.int .i64 b) w:=fun w=>by simp [part,isAgg,run_underlying h6]
 have r0:∀ w,(part 3 #[Value.int .i64 a',.int .i64 b'] 0).run Tryz.prog w=.ok (.int .i64 a') w:=fun w=>by simp [part,isAgg,run_underlying h5]
 have r1:∀ w,(part 2 #[Value.int .i64 a',.int .i64 b'] 1).run Tryz.prog w=.ok (.int .i64 b') w:=fun w=>by simp [part,isAgg,run_underlying h6]
 have e0:∀ w,(Op.equalIn 9999 3 (.int .i64 a) (.int .i64 a')).run Tryz.prog w=.ok (a==a') w:=fun w=>eq_iK h5 9998 a a' w
 have e1:∀ w,(Op.equalIn 9999 2 (.int .i64 b) (.int .i64 b')).run Tryz.prog w=.ok (b==b') w:=fun w=>eq_iK h6 9998 b b' w
 clear h5 h6
 simp only [Op.eqFields,n0,t0,o0,n1,t1,o1,m0,m1,ne_eq,not_false_eq_true,if_true,Sem.run_bind,q0,r0,e0,Result.andThen_ok]
 cases (a==a') with
 | false=>simp
 | true =>
   simp only [Bool.not_true,Bool.false_eq_true,if_false,Sem.run_bind,q1,r1,e1,Result.andThen_ok]
   cases (b==b')<;>simp
theorem bel {w W1 w2:World} (h:Below w.heap.size w W1) (hb:Below W1.heap.size W1 w2):Below w.heap.size w w2:=h.trans (hb.mono h.size)
theorem goperand_any (g:Gf) (av aa ae:Option Addr) (cv ca ce:Nat) (h0:0≤g.nv) (h1:g.nv≤1099511627776) (has:Bool) (v m:Int) (w:World):Calls Tryz.prog 126 #[grS g av cv aa ca ae ce,.bool has,.agg #[.int .i64 v,.int .i64 m]] w (fun e w'=>e=.returned (.bool (opd has v m g.nv))∧Below w.heap.size w w'):=by
 obtain ⟨W1,hW1⟩:∃ W1,(w.alloc (.cells (grB g av cv aa ca ae ce) 153)).alloc (.cells #[.int .i64 v,.int .i64 m] 38)=W1:=⟨_,rfl⟩
 obtain ⟨X,hX⟩:∃ X,w.heap.size=X:=⟨_,rfl⟩
 obtain ⟨Y,hY⟩:∃ Y,(w.alloc (.cells (grB g av cv aa ca ae ce) 153)).heap.size=Y:=⟨_,rfl⟩
 have hx:Blk W1 X (grB g av cv aa ca ae ce) 153:=by rw [← hW1,← hX];exact (Blk.new w _ _).alloc _
 have hy:Blk W1 Y #[.int .i64 v,.int .i64 m] 38:=by rw [← hW1,← hY];exact Blk.new _ _ _
 have hb1:Below w.heap.size w W1:=by rw [← hW1];exact ((Below.refl _ w).alloc (Nat.le_refl _) _).alloc (by simp) _
 have hXY:X+1=Y:=by rw [← hX,← hY,World.size_alloc]
 have HV:=fun w=>variables_any g av aa ae cv ca ce h0 h1 w
 have HQ:=fun w=>eq_opnd v m (-1) 0 w
 have HN:=fun w=>cnum_any 0 w
 have y0:W1.cell? ⟨Y,0,none⟩=some (.int .i64 v):=hy.cell 0
 have y1:W1.cell? ⟨Y,1,none⟩=some (.int .i64 m):=hy.cell 1
 have H1:=zh (za hx (za hy hb1))
 have HE:=zh (za hW1 (za hX (za hXY hY)))
 clear hx hy hb1 hW1 hX hXY hY h0 h1
 cases has with
 | false =>
   have ho:opd false v m g.nv=((v==-1)&&(m==0)):=rfl
   rw [ho]
   obtain ⟨B,hB⟩:∃ B,((v==-1)&&(m==0))=B:=⟨_,rfl⟩
   rw [hB]
   simp only [hB] at HQ
   clear ho hB HV
   go_enter Tryz.func126,Tryz.ntmps126
   go_upto_region 1 with fail
   simp only [HE.out.1,HE.out.2.1,HE.out.2.2.1]
   go_upto_region 2 with fail
   go_region_with (first | (go_at_call 167;(with_reducible refine (HN _).mono ?_);rintro e w2 ⟨rfl,hb2⟩;have hb3:Below W1.heap.size W1 w2:=(Below.refl W1.heap.size W1).drew.trans hb2;have z0:w2.cell? ⟨Y,0,none⟩=some (.int .i64 v):=(H1.out.2.1.next hb3).cell 0;have z1:w2.cell? ⟨Y,1,none⟩=some (.int .i64 m):=(H1.out.2.1.next hb3).cell 1) | fail)
   all_goals (go_wp2_with fail;go_ret;exact ⟨rfl,bel H1.out.2.2 hb3⟩)
 | true =>
   have ho:opd true v m g.nv=((v==-1) || (amg v g.nv&&m==0)):=rfl
   rw [ho]
   clear ho HQ HN
   have HX:=zh H1.out.1
   cases hv:(v==-1) with
   | true =>
     go_enter Tryz.func126,Tryz.ntmps126
     go_upto_region 1 with fail
     simp only [HE.out.1,HE.out.2.1,HE.out.2.2.1]
     go_wp2_with fail
     go_ret
     exact ⟨rfl,H1.out.2.2⟩
   | false =>
     obtain ⟨NV,hNV⟩:∃ n,g.nv=n:=⟨_,rfl⟩
     have HA:=fun w=>among_any v NV w
     rw [hNV] at HV ⊢
     obtain ⟨AM,hAM⟩:∃ b,amg v NV=b:=⟨_,rfl⟩
     obtain ⟨M0,hM0⟩:∃ b,(m==0)=b:=⟨_,rfl⟩
     rw [hAM] at HA ⊢
     rw [hM0]
     have x0:=H1.out.1.cell 0
     have x1:=H1.out.1.cell 1
     have x2:=H1.out.1.cell 2
     have x3:=H1.out.1.cell 3
     have x4:=H1.out.1.cell 4
     have x5:=H1.out.1.cell 5
     simp only [grB,List.getElem?_toArray,List.getElem?_cons_zero,List.getElem?_cons_succ] at x0 x1 x2 x3 x4 x5
     have KS:=fun w' (hW:Below W1.heap.size W1 w')=>(⟨(H1.out.2.1.below hW H1.out.2.1.lt).cell 0,(H1.out.2.1.below hW H1.out.2.1.lt).cell 1,(H1.out.1.below hW H1.out.1.lt).cell 0,(H1.out.1.below hW H1.out.1.lt).cell 1,(H1.out.1.below hW H1.out.1.lt).cell 2,(H1.out.1.below hW H1.out.1.lt).cell 3,(H1.out.1.below hW H1.out.1.lt).cell 4,(H1.out.1.below hW H1.out.1.lt).cell 5,hW⟩:(fun w'=>w'.cell? ⟨Y,0,none⟩=some (.int .i64 v)∧w'.cell? ⟨Y,1,none⟩=some (.int .i64 m)∧w'.cell? ⟨X,0,none⟩=some (.slice av g.vs.length cv)∧w'.cell? ⟨X,1,none⟩=some (.int .i64 g.tmp)∧w'.cell? ⟨X,2,none⟩=some (.slice aa g.ar.length ca)∧w'.cell? ⟨X,3,none⟩=some (.int .i64 g.pts)∧w'.cell? ⟨X,4,none⟩=some (.int .i64 g.ext)∧w'.cell? ⟨X,5,none⟩=some (.slice ae g.es.length ce)∧Below W1.heap.size W1 w') w')
     clear hNV hAM
     clear KS x1 x2 x3 x4 x5
     have x1:W1.cell? ⟨X,1,none⟩=some (.int .i64 g.tmp):=H1.out.1.cell 1
     have x2:W1.cell? ⟨X,2,none⟩=some (.slice aa g.ar.length ca):=H1.out.1.cell 2
     have x3:W1.cell? ⟨X,3,none⟩=some (.int .i64 g.pts):=H1.out.1.cell 3
     have x4:W1.cell? ⟨X,4,none⟩=some (.int .i64 g.ext):=H1.out.1.cell 4
     have x5:W1.cell? ⟨X,5,none⟩=some (.slice ae g.es.length ce):=H1.out.1.cell 5
     cases AM<;>cases M0
     all_goals
      go_enter Tryz.func126,Tryz.ntmps126
      go_upto_region 1 with fail
      simp only [HE.out.1,HE.out.2.1,HE.out.2.2.1]
      go_upto_region 5 with fail
      first | (go_region_with (first | (go_at_call 124;(with_reducible refine (HV _).mono ?_);rintro e w2 ⟨rfl,hb2⟩;have hb3:Below W1.heap.size W1 w2:=(Below.refl W1.heap.size W1).drew.trans hb2;have z0:w2.cell? ⟨Y,0,none⟩=some (.int .i64 v):=(H1.out.2.1.next hb3).cell 0;have z1:w2.cell? ⟨Y,1,none⟩=some (.int .i64 m):=(H1.out.2.1.next hb3).cell 1) | (go_at_call 80;(with_reducible refine (HA _).mono ?_);rintro e w3 ⟨rfl,rfl⟩) | fail)) | fail
      all_goals (go_wp2_with fail;go_ret;exact ⟨rfl,bel H1.out.2.2 hb3⟩)
def RowAt (w:World) (m:Nat) (cs:List Value) (v:Value):Prop:=∃ a c,v=.slice a m c∧(m=0∨∃ b o,a=some ⟨b,o,none⟩∧∀ j u,cs[j]?=some u→w.cell? ⟨b,o+j,none⟩=some u)
section
variable {P:Program} (w:World)
end
theorem decl_form {w:World} {x:Nd} {vs:List Value} (hty:x.ty=.D) (h:NdIn w x vs):vs=[.string (dNm x),.int .i64 (dSz x)]∧∀ w':World,NdIn w' x [.string (dNm x),.int .i64 (dSz x)]:=by
 obtain ⟨ty,k,n,nm,xs,cs,ts,es⟩:=x
 simp only [Nd.ty] at hty
 subst hty
 unfold NdIn at h
 obtain ⟨⟨rfl,rfl,rfl,rfl,rfl⟩,h1,h2,h3,vx,vc,vt,ve,h4,-⟩:=h
 refine ⟨h4,fun w'=>?_⟩
 unfold NdIn
 exact ⟨⟨rfl,rfl,rfl,rfl,rfl⟩,h1,h2,h3,.slice none 0 0,.slice none 0 0,.slice none 0 0,.slice none 0 0,rfl,sl0 w' .E,sl0 w' .C,sl0 w' .S,sl0 w' .S⟩
theorem rowD {w:World}:∀ (l:List Nd) (b o:Nat),RowIn w .D l b o→(∀ x ∈ l,x.ty=.D∧∀ w':World,NdIn w' x [.string (dNm x),.int .i64 (dSz x)])∧∀ j u,(cellsD l)[j]?=some u→w.cell? ⟨b,o+j,none⟩=some u
 | [],_,_,_=>⟨fun x h=>(by cases h),fun j u h=>(by simp [cellsD] at h)⟩
 | x :: r,b,o,h=>by
   unfold RowIn at h
   obtain ⟨⟨h1,vs,h2,h3⟩,h4⟩:=h
   obtain ⟨k1,k2⟩:=rowD r b (o+Ty.size .D) h4
   obtain ⟨rfl,h5⟩:=decl_form h1 h3
   refine ⟨fun y hy=>?_,fun j u hj=>?_⟩
   · rcases List.mem_cons.1 hy with rfl | hy
     · exact ⟨h1,h5⟩
     · exact k1 y hy
   · have e:cellsD (x :: r)=[.string (dNm x),.int .i64 (dSz x)]++cellsD r:=rfl
     rw [e] at hj
     match j with
     | 0=>exact h2 0 u (by simpa using hj)
     | 1=>exact h2 1 u (by simpa using hj)
     | j+2 =>
       have:=k2 j u (by simpa using hj)
       simp only [Ty.size] at this
       rw [show o+(j+2)=o+2+j by omega]
       exact this
def DeclL (l:List Nd):Prop:=∀ x ∈ l,x.ty=.D∧∀ w':World,NdIn w' x [.string (dNm x),.int .i64 (dSz x)]
theorem slD {w:World} {l:List Nd} {v:Value} (h:SlIn w .D l v):DeclL l∧RowAt w l.length (cellsD l) v:=by
 obtain ⟨a,c,rfl,h1,h2,h3⟩:=h
 rcases h3 with h3 | ⟨b,o,rfl,h4⟩
 · obtain rfl:l=[]:=List.eq_nil_of_length_eq_zero h3
   exact ⟨fun x h=>(by cases h),a,c,rfl,.inl rfl⟩
 · obtain ⟨k1,k2⟩:=rowD l b o h4
   exact ⟨k1,_,c,rfl,.inr ⟨b,o,rfl,k2⟩⟩
theorem slD_own {w:World} {base:Nat} {l:List Nd} {v:Value} (hn:DeclL l) (h:w.ownsRow base 104 2 v l.length (cellsD l)):SlIn w .D l v:=by
 obtain ⟨a,c,rfl,h1,h2,h3⟩:=own_len h
 refine ⟨a,c,rfl,h1,h2,h3.imp id ?_⟩
 rintro ⟨g,rfl,-,-,h4⟩
 refine ⟨g,0,rfl,RowIn.of _ _ _ fun i hi=>?_⟩
 obtain ⟨k1,k2⟩:=hn _ (List.getElem_mem hi)
 obtain ⟨q0,q1⟩:=cellsD_at l i hi
 refine ⟨k1,_,fun j u hj=>?_,k2 w⟩
 match j with
 | 0=>simp only [Ty.size];rw [show 0+i * 2+0=i * 2 by omega];exact h4 _ _ (by rw [q0];simpa using hj)
 | 1=>simp only [Ty.size];rw [show 0+i * 2+1=i * 2+1 by omega];exact h4 _ _ (by rw [q1];simpa using hj)
 | j+2=>simp at hj
def cput6 (w:World) (Y:Nat) (v0 v1 v2 v3 v4 v5:Value):World:=(((((w.setCell ⟨Y,0,none⟩ v0).setCell ⟨Y,1,none⟩ v1).setCell ⟨Y,2,none⟩ v2).setCell ⟨Y,3,none⟩ v3).setCell ⟨Y,4,none⟩ v4).setCell ⟨Y,5,none⟩ v5
theorem cput6_blk {w:World} {Y:Nat} {a0 a1 a2 a3 a4 a5:Value} {t:TypeId} (h:Blk w Y #[a0,a1,a2,a3,a4,a5] t) (v0 v1 v2 v3 v4 v5:Value):Blk (cput6 w Y v0 v1 v2 v3 v4 v5) Y #[v0,v1,v2,v3,v4,v5] t:=by
 have h0:Blk (w.setCell ⟨Y,0,none⟩ v0) Y #[v0,a1,a2,a3,a4,a5] t:=h.set 0 v0
 have h1:Blk ((w.setCell ⟨Y,0,none⟩ v0).setCell ⟨Y,1,none⟩ v1) Y #[v0,v1,a2,a3,a4,a5] t:=h0.set 1 v1
 have h2:Blk (((w.setCell ⟨Y,0,none⟩ v0).setCell ⟨Y,1,none⟩ v1).setCell ⟨Y,2,none⟩ v2) Y #[v0,v1,v2,a3,a4,a5] t:=h1.set 2 v2
 have h3:Blk ((((w.setCell ⟨Y,0,none⟩ v0).setCell ⟨Y,1,none⟩ v1).setCell ⟨Y,2,none⟩ v2).setCell ⟨Y,3,none⟩ v3) Y #[v0,v1,v2,v3,a4,a5] t:=h2.set 3 v3
 have h4:Blk (((((w.setCell ⟨Y,0,none⟩ v0).setCell ⟨Y,1,none⟩ v1).setCell ⟨Y,2,none⟩ v2).setCell ⟨Y,3,none⟩ v3).setCell ⟨Y,4,none⟩ v4) Y #[v0,v1,v2,v3,v4,a5] t:=h3.set 4 v4
 have h5:Blk ((((((w.setCell ⟨Y,0,none⟩ v0).setCell ⟨Y,1,none⟩ v1).setCell ⟨Y,2,none⟩ v2).setCell ⟨Y,3,none⟩ v3).setCell ⟨Y,4,none⟩ v4).setCell ⟨Y,5,none⟩ v5) Y #[v0,v1,v2,v3,v4,v5] t:=h4.set 5 v5
 exact h5
theorem cput6_only (w:World) (Y:Nat) (v0 v1 v2 v3 v4 v5:Value):Only Y w (cput6 w Y v0 v1 v2 v3 v4 v5):=((((((Only.refl Y w).setCell (p:=⟨Y,0,none⟩) rfl _).setCell (p:=⟨Y,1,none⟩) rfl _).setCell (p:=⟨Y,2,none⟩) rfl _).setCell (p:=⟨Y,3,none⟩) rfl _).setCell (p:=⟨Y,4,none⟩) rfl _).setCell (p:=⟨Y,5,none⟩) rfl _
def LgAt (w:World) (l:List Int) (v:Value):Prop:=∃ a c,v=.slice a l.length c∧(l.length=0∨∃ b o,a=some ⟨b,o,none⟩∧∀ i (hi:i<l.length),w.cell? ⟨b,o+i,none⟩=some (.int .i64 l[i]))
theorem LgAt.keep {w w':World} {l:List Int} {v:Value} (h:LgAt w l v) (hk:Keeps w w'):LgAt w' l v:=by
 obtain ⟨a,c,h1,h2⟩:=h
 exact ⟨a,c,h1,h2.imp id fun ⟨b,o,h3,h4⟩=>⟨b,o,h3,fun i hi=>hk _ _ _ (h4 i hi)⟩⟩
def RwAt (w:World) (l:List (List Int)) (v:Value):Prop:=∃ a c,v=.slice a l.length c∧(l.length=0∨∃ b o,a=some ⟨b,o,none⟩∧∀ i (hi:i<l.length),∃ u,w.cell? ⟨b,o+i,none⟩=some u∧LgAt w l[i] u)
theorem RwAt.keep {w w':World} {l:List (List Int)} {v:Value} (h:RwAt w l v) (hk:Keeps w w'):RwAt w' l v:=by
 obtain ⟨a,c,h1,h2⟩:=h
 refine ⟨a,c,h1,h2.imp id fun ⟨b,o,h3,h4⟩=>⟨b,o,h3,fun i hi=>?_⟩⟩
 obtain ⟨u,h5,h6⟩:=h4 i hi
 exact ⟨u,hk _ _ _ h5,h6.keep hk⟩
structure VsAt (w:World) (s:Rn) (vv va vi:Value):Prop where
 v:LgAt w s.vars vv
 a:RwAt w s.arrs va
 i:LgAt w s.left vi
 nv:s.vars.length≤maxLen
 na:s.arrs.length≤maxLen
 sz:∀ l ∈ s.arrs,l.length≤maxLen
 fv:∀ x ∈ s.vars,fitsI x
 fa:∀ l ∈ s.arrs,∀ x ∈ l,fitsI x
 fi:∀ x ∈ s.left,fitsI x
theorem VsAt.keep {w w':World} {s:Rn} {vv va vi:Value} (h:VsAt w s vv va vi) (hk:Keeps w w'):VsAt w' s vv va vi:=⟨h.v.keep hk,h.a.keep hk,h.i.keep hk,h.nv,h.na,h.sz,h.fv,h.fa,h.fi⟩
theorem VsAt.next {w w':World} {s:Rn} {vv va vi:Value} (h:VsAt w s vv va vi) (hb:Below w.heap.size w w'):VsAt w' s vv va vi:=h.keep (keeps_below hb)
def plcA (v:Value) (i:Nat):Option Addr:=match v with
 | .slice (some a) _ _=>some ⟨a.block,a.off+i,none⟩
 | _=>none
theorem valO_fits {s:Rn} (h:∀ x ∈ s.vars,fitsI x) {v n:Int} (hn:fitsI n):fitsI (valO s v n):=by
 unfold valO
 split
 · exact hn
 · rw [List.getD_eq_getElem?_getD]
   cases hi:s.vars[v.toNat]? with
   | none=>decide
   | some x=>exact h x (List.mem_of_getElem? hi)
abbrev vsV (vv va vi:Value):Value:=.agg #[vv,va,vi]
theorem stvalue_any (vv va vi:Value) (s:Rn) (w:World) (hv:LgAt w s.vars vv) (v n:Int) (h:v<0∨v<s.vars.length) :
    Calls Tryz.prog 100 #[vsV vv va vi,.agg #[.int .i64 v,.int .i64 n]] w (fun e w'=>e=.returned (.int .i64 (valO s v n))∧Below w.heap.size w w'):=by
 obtain ⟨X,hX⟩:∃ X,w.heap.size=X:=⟨_,rfl⟩
 obtain ⟨W1,hW1⟩:∃ W1,w.alloc (.cells #[vv,va,vi] 91)=W1:=⟨_,rfl⟩
 obtain ⟨Y,hY⟩:∃ Y,X+1=Y:=⟨_,rfl⟩
 obtain ⟨W2,hW2⟩:∃ W2,W1.alloc (.cells #[.int .i64 v,.int .i64 n] 38)=W2:=⟨_,rfl⟩
 have hx2:Blk W2 X #[vv,va,vi] 91:=by rw [← hW2];exact (show Blk W1 X _ _ by rw [← hW1,← hX];exact Blk.new w _ _).alloc _
 have hs1:W1.heap.size=Y:=by rw [← hW1,World.size_alloc,hX,hY]
 have hy2:Blk W2 Y #[.int .i64 v,.int .i64 n] 38:=by rw [← hW2,← hs1];exact Blk.new W1 _ _
 have hb1:Below w.heap.size w W1:=by rw [← hW1];exact (Below.refl _ w).alloc (Nat.le_refl _) _
 have hb2:Below w.heap.size w W2:=by rw [← hW2];exact hb1.alloc hb1.size _
 have xc:=hx2.cell
 have yc:=hy2.cell
 have HB:=zh hb2
 have HE:=zh (za hW1 (za hX (za hW2 hY)))
 clear hx2 hy2 hs1 hb1 hW1 hX hW2 hY
 by_cases h0:v<0
 · have hd:decide (v<0)=true:=by simpa using h0
   have e:valO s v n=n:=if_pos h0
   rw [e]
   clear h h0 hv hb2 e
   go_enter Tryz.func100,Tryz.ntmps100
   go_upto_region 1 with fail
   rw [HE.out.1,HE.out.2.1,HE.out.2.2.2,HE.out.2.2.1]
   go_wp2_with fail
   go_ret
   exact ⟨rfl,HB.out⟩
 · have hd:decide (v<0)=false:=by simpa using h0
   have hlt:v<s.vars.length:=h.resolve_left h0
   obtain ⟨p,rfl⟩:∃ m:Nat,v=m:=⟨v.toNat,by omega⟩
   obtain ⟨a,c,rfl,hr⟩:=hv
   obtain ⟨b,o,rfl,hc⟩:=hr.resolve_left (by omega)
   have hpl:p<s.vars.length:=by omega
   have m0:=keeps_below hb2 _ _ _ (hc p hpl)
   have e:valO s p n=s.vars[p]:=by
    unfold valO
    rw [if_neg h0,Int.toNat_natCast,List.getD_eq_getElem?_getD,List.getElem?_eq_getElem hpl]
    rfl
   rw [e]
   obtain ⟨V,hV⟩:∃ V,s.vars[p]=V:=⟨_,rfl⟩
   rw [hV] at m0 ⊢
   clear h h0 hc hr hb2 e hV
   go_enter Tryz.func100,Tryz.ntmps100
   go_upto_region 1 with fail
   rw [HE.out.1,HE.out.2.1,HE.out.2.2.2,HE.out.2.2.1]
   go_wp2_with fail
   go_ret
   exact ⟨rfl,HB.out⟩
abbrev ddC (wr:Int) (pl:Option Addr) (num:Int) (tl inp:Bool) (en:Int) (hd:Bool):Array Value:=#[.int .i64 wr,.pointer pl,.int .i64 num,.bool tl,.bool inp,.int .i64 en,.bool hd]
abbrev ddV (wr:Int) (pl:Option Addr) (num:Int) (tl inp:Bool) (en:Int) (hd:Bool):Value:=.agg (ddC wr pl num tl inp en hd)
abbrev edC (e:Ed):Array Value:=#[.int .i64 e.fr,.int .i64 e.dt,.int .i64 e.kd,.int .i64 e.dst,.int .i64 e.arr,.int .i64 e.op,.int .i64 e.av,.int .i64 e.an,.int .i64 e.bv,.int .i64 e.bn]
def dput7 (w:World) (Y:Nat) (v0 v1 v2 v3 v4 v5 v6:Value):World:=((((((w.setCell ⟨Y,0,none⟩ v0).setCell ⟨Y,1,none⟩ v1).setCell ⟨Y,2,none⟩ v2).setCell ⟨Y,3,none⟩ v3).setCell ⟨Y,4,none⟩ v4).setCell ⟨Y,5,none⟩ v5).setCell ⟨Y,6,none⟩ v6
theorem dput7_blk {w:World} {Y:Nat} {a0 a1 a2 a3 a4 a5 a6:Value} {t:TypeId} (h:Blk w Y #[a0,a1,a2,a3,a4,a5,a6] t) (v0 v1 v2 v3 v4 v5 v6:Value):Blk (dput7 w Y v0 v1 v2 v3 v4 v5 v6) Y #[v0,v1,v2,v3,v4,v5,v6] t:=by
 have h0:Blk (w.setCell ⟨Y,0,none⟩ v0) Y #[v0,a1,a2,a3,a4,a5,a6] t:=h.set 0 v0
 have h1:Blk ((w.setCell ⟨Y,0,none⟩ v0).setCell ⟨Y,1,none⟩ v1) Y #[v0,v1,a2,a3,a4,a5,a6] t:=h0.set 1 v1
 have h2:Blk (((w.setCell ⟨Y,0,none⟩ v0).setCell ⟨Y,1,none⟩ v1).setCell ⟨Y,2,none⟩ v2) Y #[v0,v1,v2,a3,a4,a5,a6] t:=h1.set 2 v2
 have h3:Blk ((((w.setCell ⟨Y,0,none⟩ v0).setCell ⟨Y,1,none⟩ v1).setCell ⟨Y,2,none⟩ v2).setCell ⟨Y,3,none⟩ v3) Y #[v0,v1,v2,v3,a4,a5,a6] t:=h2.set 3 v3
 have h4:Blk (((((w.setCell ⟨Y,0,none⟩ v0).setCell ⟨Y,1,none⟩ v1).setCell ⟨Y,2,none⟩ v2).setCell ⟨Y,3,none⟩ v3).setCell ⟨Y,4,none⟩ v4) Y #[v0,v1,v2,v3,v4,a5,a6] t:=h3.set 4 v4
 have h5:Blk ((((((w.setCell ⟨Y,0,none⟩ v0).setCell ⟨Y,1,none⟩ v1).setCell ⟨Y,2,none⟩ v2).setCell ⟨Y,3,none⟩ v3).setCell ⟨Y,4,none⟩ v4).setCell ⟨Y,5,none⟩ v5) Y #[v0,v1,v2,v3,v4,v5,a6] t:=h4.set 5 v5
 have h6:Blk (((((((w.setCell ⟨Y,0,none⟩ v0).setCell ⟨Y,1,none⟩ v1).setCell ⟨Y,2,none⟩ v2).setCell ⟨Y,3,none⟩ v3).setCell ⟨Y,4,none⟩ v4).setCell ⟨Y,5,none⟩ v5).setCell ⟨Y,6,none⟩ v6) Y #[v0,v1,v2,v3,v4,v5,v6] t:=h5.set 6 v6
 exact h6
theorem dput7_only (w:World) (Y:Nat) (v0 v1 v2 v3 v4 v5 v6:Value):Only Y w (dput7 w Y v0 v1 v2 v3 v4 v5 v6):=((((((((Only.refl Y w).setCell (p:=⟨Y,0,none⟩) rfl _).setCell (p:=⟨Y,1,none⟩) rfl _).setCell (p:=⟨Y,2,none⟩) rfl _).setCell (p:=⟨Y,3,none⟩) rfl _).setCell (p:=⟨Y,4,none⟩) rfl _).setCell (p:=⟨Y,5,none⟩) rfl _).setCell (p:=⟨Y,6,none⟩) rfl _)
theorem st3 (w:World) (c0 c1 c2:Array Value) (t0 t1 t2:TypeId):∃ W1 X W2 Y W3 R,(w.alloc (.cells c0 t0)=W1∧w.heap.size=X∧W1.alloc (.cells c1 t1)=W2∧X+1=Y∧W2.alloc (.cells c2 t2)=W3∧Y+1=R)∧Blk W3 X c0 t0∧Blk W3 Y c1 t1∧Blk W3 R c2 t2∧Below w.heap.size w W3∧w.heap.size≤X∧X<R∧Y<R∧W3.heap.size=R+1:=by
 refine ⟨_,_,_,_,_,_,⟨rfl,rfl,rfl,rfl,rfl,rfl⟩,((Blk.new w _ _).alloc _).alloc _,?_,?_,?_,Nat.le_refl _,by omega,by omega,?_⟩
 · have h:=(Blk.new (w.alloc (.cells c0 t0)) c1 t1).alloc (.cells c2 t2)
   rw [World.size_alloc] at h
   exact h
 · have h:=Blk.new ((w.alloc (.cells c0 t0)).alloc (.cells c1 t1)) c2 t2
   rw [World.size_alloc,World.size_alloc] at h
   exact h
 · exact (((Below.refl _ w).alloc (Nat.le_refl _) _).alloc (by simp) _).alloc (by simp only [World.size_alloc];omega) _
 · rw [World.size_alloc,World.size_alloc,World.size_alloc]
abbrev dd0:Array Value:=ddC 0 none 0 false false 0 false
theorem stgive_any (vv va vi:Value) (s:Rn) (w:World) (hv:LgAt w s.vars vv) (e:Ed) (num wr:Int) (h:wr=0→0≤e.dst∧e.dst<s.vars.length) :
    Calls Tryz.prog 128 #[vsV vv va vi,edgeV e,.int .i64 num,.int .i64 wr] w (fun z w'=>z=.returned (if wr=0 then ddV 0 (plcA vv e.dst.toNat) num false false 0 false else ddV wr none 0 false false 0 false)∧Below w.heap.size w w'):=by
 obtain ⟨W1,X,W2,Y,W3,R,hE,hx,hy,hr,hb,hwX,hXR,hYR,-⟩:=st3 w #[vv,va,vi] (edC e) dd0 91 40 166
 obtain ⟨d,hd⟩:∃ d,e.dst=d:=⟨_,rfl⟩
 have y3:W3.cell? ⟨Y,3,none⟩=some (.int .i64 d):=by rw [← hd];exact hy.cell 3
 rw [hd] at h ⊢
 have xc:=hx.cell
 have rc:=hr.cell
 have rf:=hr.free
 have HB:=zh (za hr (za hb (Nat.le_trans hwX (Nat.le_of_lt hXR))))
 have HE:=zh hE
 clear hy hx hb hE hwX hXR hYR hr hd
 by_cases hz:wr=0
 · obtain ⟨h0,h1⟩:=h hz
   subst hz
   obtain ⟨p,rfl⟩:∃ m:Nat,d=m:=⟨d.toNat,by omega⟩
   obtain ⟨a,c,rfl,hrr⟩:=hv
   obtain ⟨b,o,rfl,hc⟩:=hrr.resolve_left (by omega)
   rw [if_pos rfl,Int.toNat_natCast]
   clear h h0 hc hrr
   go_enter Tryz.func128,Tryz.ntmps128
   go_upto_region 1 with fail
   rw [HE.out.1,HE.out.2.1,HE.out.2.2.1,HE.out.2.2.2.1,HE.out.2.2.2.2.1,HE.out.2.2.2.2.2]
   go_wp2_with fail
   refine bodyPost_ret (results_cell_row rfl _ _ R _ (ddC 0 (some ⟨b,o+p,none⟩) num false false 0 false) _ _ rfl (dput7_blk HB.out.1 _ _ _ _ _ _ _) rfl rfl (by kernel_rfl)) rfl ?_
   exact ⟨rfl,HB.out.2.1.trans ((dput7_only W3 R _ _ _ _ _ _ _).old HB.out.2.2 HB.out.2.1.size)⟩
 · rw [if_neg hz]
   have t1:(wr != 0)=true:=by simpa using hz
   clear h hz
   go_enter Tryz.func128,Tryz.ntmps128
   go_upto_region 1 with fail
   rw [HE.out.1,HE.out.2.1,HE.out.2.2.1,HE.out.2.2.2.1,HE.out.2.2.2.2.1,HE.out.2.2.2.2.2]
   go_wp2_with fail
   refine bodyPost_ret (results_cell_row rfl _ _ R _ (ddC wr none 0 false false 0 false) _ _ rfl (dput7_blk HB.out.1 _ _ _ _ _ _ _) rfl rfl (by kernel_rfl)) rfl ?_
   exact ⟨rfl,HB.out.2.1.trans ((dput7_only W3 R _ _ _ _ _ _ _).old HB.out.2.2 HB.out.2.1.size)⟩
end Go.Proofs.YtmohmggnjldddaaGreatDoor
