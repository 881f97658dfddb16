/-
  The project's tour over expressions (tree's walk and each): proved is what it leaves, for every expression in memory.
-/
import Derived.Test.YtmohmggnjldddaaGreatDoorQOwn
import Derived.BigQuiet
import Derived.Test.YtmohmggnjldddaaGreatDoorQRune4
import Derived.Deep.DeepCutAuto
namespace Go.Proofs.YtmohmggnjldddaaGreatDoor
open Go Go.RowKit
theorem wrap_zero {a b:Nat} (ha:a≤maxLen) (hb:b≤maxLen):(IntKind.i64.wrap ((a:Int)+(b:Int)) == 0)=(((a:Int) == 0) && ((b:Int) == 0)):=by
 rw [Bool.eq_iff_iff]
 simp only [beq_iff_eq,Bool.and_eq_true]
 unfold maxLen at ha hb
 constructor
 · intro h
   simp only [IntKind.wrap,IntKind.signed,IntKind.bits,Bool.true_and] at h
   simp at h
   split at h <;> omega
 · rintro ⟨h1,h2⟩
   rw [h1,h2]
   rfl
def wellS (k:Int) (nm:ByteArray) (xl cl tl el:Nat):Bool:=(kindS k && (((k == 1) || (k == 2)) || (nm.toList == []))) && ownS k xl cl tl el
set_option maxRecDepth 100000 in
set_option maxHeartbeats 8000000 in
theorem stmtForm_any (k:Int) (nm:ByteArray) (a:Option Addr) (xl c:Nat) (a2:Option Addr) (cl c2:Nat) (a3:Option Addr) (tl c3:Nat) (a4:Option Addr) (el c4:Nat) (w:World) (ht:tl≤maxLen) (he:el≤maxLen):Calls Tryz.prog 177 #[.agg #[.int .i64 k,.string nm,.slice a xl c,.slice a2 cl c2,.slice a3 tl c3,.slice a4 el c4]] w (fun e w'=>e=.returned (.bool (wellS k nm xl cl tl el))∧Below w.heap.size w w'):=by
 obtain ⟨S,hS⟩:∃ S,IntKind.i64.wrap ((tl:Int)+(el:Int))=S:=⟨_,rfl⟩
 have hz:(S == 0)=(((tl:Int) == 0) && ((el:Int) == 0)):=by rw [← hS];exact wrap_zero ht he
 have HZ:=Lib.hid hz;clear hz
 clear ht he
 have ha:=(Below.refl w.heap.size w).alloc (Nat.le_refl _) (.cells #[.int .i64 k,.string nm,.slice a xl c,.slice a2 cl c2,.slice a3 tl c3,.slice a4 el c4] 243)
 by_cases q1:k=1
 · subst q1
   have eq:wellS 1 nm xl cl tl el=(((xl:Int) == 1) && (((cl:Int) == 0) && (S == 0))):=by
    have hz:=HZ.out
    rw [hz]
    show ((true && ((true || false) || (nm.toList == []))) && (((xl:Int) == 1) && (((cl:Int) == 0) && ((((tl:Int) == 0) || (false || false)) && (((el:Int) == 0) || false)))))=_
    cases (nm.toList == []) <;> cases ((xl:Int) == 1) <;> cases ((cl:Int) == 0) <;> cases ((tl:Int) == 0) <;> cases ((el:Int) == 0) <;> rfl
   cases h1:((xl:Int) == 1) with
   | false =>
     have e:wellS 1 nm xl cl tl el=false:=by rw [eq,h1];rfl
     rw [e]
     clear e eq
     go_enter Tryz.func177,Tryz.ntmps177
     go_wp2
     go_quiet (fail)
     go_wp2
     go_ret
     exact ⟨rfl,below_drewN ha _⟩
   | true =>
     cases h2:((cl:Int) == 0) with
     | false =>
       have e:wellS 1 nm xl cl tl el=false:=by rw [eq,h1,h2];rfl
       rw [e]
       clear e eq
       go_enter Tryz.func177,Tryz.ntmps177
       go_wp2
       go_quiet (fail)
       go_wp2
       go_ret
       exact ⟨rfl,below_drewN ha _⟩
     | true =>
       cases h3:(S == 0) with
       | false =>
         have e:wellS 1 nm xl cl tl el=false:=by rw [eq,h1,h2,h3];rfl
         rw [e]
         clear e eq
         go_enter Tryz.func177,Tryz.ntmps177
         go_wp2
         go_quiet (fail)
         go_wp2
         go_ret
         exact ⟨rfl,below_drewN ha _⟩
       | true =>
         have e:wellS 1 nm xl cl tl el=true:=by rw [eq,h1,h2,h3];rfl
         rw [e]
         clear e eq
         go_enter Tryz.func177,Tryz.ntmps177
         go_wp2
         go_quiet (fail)
         go_wp2
         go_ret
         exact ⟨rfl,below_drewN ha _⟩
 by_cases q2:k=2
 · subst q2
   have eq:wellS 2 nm xl cl tl el=(((xl:Int) == 2) && (((cl:Int) == 0) && (S == 0))):=by
    have hz:=HZ.out
    rw [hz]
    show ((true && ((false || true) || (nm.toList == []))) && (((xl:Int) == 2) && (((cl:Int) == 0) && ((((tl:Int) == 0) || (false || false)) && (((el:Int) == 0) || false)))))=_
    cases (nm.toList == []) <;> cases ((xl:Int) == 2) <;> cases ((cl:Int) == 0) <;> cases ((tl:Int) == 0) <;> cases ((el:Int) == 0) <;> rfl
   cases h1:((xl:Int) == 2) with
   | false =>
     have e:wellS 2 nm xl cl tl el=false:=by rw [eq,h1];rfl
     rw [e]
     clear e eq
     go_enter Tryz.func177,Tryz.ntmps177
     go_wp2
     go_quiet (fail)
     go_wp2
     go_ret
     exact ⟨rfl,below_drewN ha _⟩
   | true =>
     cases h2:((cl:Int) == 0) with
     | false =>
       have e:wellS 2 nm xl cl tl el=false:=by rw [eq,h1,h2];rfl
       rw [e]
       clear e eq
       go_enter Tryz.func177,Tryz.ntmps177
       go_wp2
       go_quiet (fail)
       go_wp2
       go_ret
       exact ⟨rfl,below_drewN ha _⟩
     | true =>
       cases h3:(S == 0) with
       | false =>
         have e:wellS 2 nm xl cl tl el=false:=by rw [eq,h1,h2,h3];rfl
         rw [e]
         clear e eq
         go_enter Tryz.func177,Tryz.ntmps177
         go_wp2
         go_quiet (fail)
         go_wp2
         go_ret
         exact ⟨rfl,below_drewN ha _⟩
       | true =>
         have e:wellS 2 nm xl cl tl el=true:=by rw [eq,h1,h2,h3];rfl
         rw [e]
         clear e eq
         go_enter Tryz.func177,Tryz.ntmps177
         go_wp2
         go_quiet (fail)
         go_wp2
         go_ret
         exact ⟨rfl,below_drewN ha _⟩
 by_cases q3:k=3
 · subst q3
   have eq:wellS 3 nm xl cl tl el=((nm.toList == []) && (((xl:Int) == 0) && ((cl:Int) == 1))):=by
    show ((true && ((false || false) || (nm.toList == []))) && (((xl:Int) == 0) && (((cl:Int) == 1) && ((((tl:Int) == 0) || (true || false)) && (((el:Int) == 0) || true)))))=_
    cases (nm.toList == []) <;> cases ((xl:Int) == 0) <;> cases ((cl:Int) == 1) <;> cases ((tl:Int) == 0) <;> cases ((el:Int) == 0) <;> rfl
   cases h1:(nm.toList == []) with
   | false =>
     have e:wellS 3 nm xl cl tl el=false:=by rw [eq,h1];rfl
     rw [e]
     clear e eq
     go_enter Tryz.func177,Tryz.ntmps177
     go_wp2
     go_quiet (fail)
     go_wp2
     go_ret
     exact ⟨rfl,below_drewN ha _⟩
   | true =>
     cases h2:((xl:Int) == 0) with
     | false =>
       have e:wellS 3 nm xl cl tl el=false:=by rw [eq,h1,h2];rfl
       rw [e]
       clear e eq
       go_enter Tryz.func177,Tryz.ntmps177
       go_wp2
       go_quiet (fail)
       go_wp2
       go_ret
       exact ⟨rfl,below_drewN ha _⟩
     | true =>
       cases h3:((cl:Int) == 1) with
       | false =>
         have e:wellS 3 nm xl cl tl el=false:=by rw [eq,h1,h2,h3];rfl
         rw [e]
         clear e eq
         go_enter Tryz.func177,Tryz.ntmps177
         go_wp2
         go_quiet (fail)
         go_wp2
         go_ret
         exact ⟨rfl,below_drewN ha _⟩
       | true =>
         have e:wellS 3 nm xl cl tl el=true:=by rw [eq,h1,h2,h3];rfl
         rw [e]
         clear e eq
         go_enter Tryz.func177,Tryz.ntmps177
         go_wp2
         go_quiet (fail)
         go_wp2
         go_ret
         exact ⟨rfl,below_drewN ha _⟩
 by_cases q4:k=4
 · subst q4
   have eq:wellS 4 nm xl cl tl el=((nm.toList == []) && (((xl:Int) == 0) && (((cl:Int) == 1) && ((el:Int) == 0)))):=by
    show ((true && ((false || false) || (nm.toList == []))) && (((xl:Int) == 0) && (((cl:Int) == 1) && ((((tl:Int) == 0) || (false || true)) && (((el:Int) == 0) || false)))))=_
    cases (nm.toList == []) <;> cases ((xl:Int) == 0) <;> cases ((cl:Int) == 1) <;> cases ((tl:Int) == 0) <;> cases ((el:Int) == 0) <;> rfl
   cases h1:(nm.toList == []) with
   | false =>
     have e:wellS 4 nm xl cl tl el=false:=by rw [eq,h1];rfl
     rw [e]
     clear e eq
     go_enter Tryz.func177,Tryz.ntmps177
     go_wp2
     go_quiet (fail)
     go_wp2
     go_ret
     exact ⟨rfl,below_drewN ha _⟩
   | true =>
     cases h2:((xl:Int) == 0) with
     | false =>
       have e:wellS 4 nm xl cl tl el=false:=by rw [eq,h1,h2];rfl
       rw [e]
       clear e eq
       go_enter Tryz.func177,Tryz.ntmps177
       go_wp2
       go_quiet (fail)
       go_wp2
       go_ret
       exact ⟨rfl,below_drewN ha _⟩
     | true =>
       cases h3:((cl:Int) == 1) with
       | false =>
         have e:wellS 4 nm xl cl tl el=false:=by rw [eq,h1,h2,h3];rfl
         rw [e]
         clear e eq
         go_enter Tryz.func177,Tryz.ntmps177
         go_wp2
         go_quiet (fail)
         go_wp2
         go_ret
         exact ⟨rfl,below_drewN ha _⟩
       | true =>
         cases h4:((el:Int) == 0) with
         | false =>
           have e:wellS 4 nm xl cl tl el=false:=by rw [eq,h1,h2,h3,h4];rfl
           rw [e]
           clear e eq
           go_enter Tryz.func177,Tryz.ntmps177
           go_wp2
           go_quiet (fail)
           go_wp2
           go_ret
           exact ⟨rfl,below_drewN ha _⟩
         | true =>
           have e:wellS 4 nm xl cl tl el=true:=by rw [eq,h1,h2,h3,h4];rfl
           rw [e]
           clear e eq
           go_enter Tryz.func177,Tryz.ntmps177
           go_wp2
           go_quiet (fail)
           go_wp2
           go_ret
           exact ⟨rfl,below_drewN ha _⟩
 by_cases q5:k=5
 · subst q5
   have eq:wellS 5 nm xl cl tl el=((nm.toList == []) && (((xl:Int) == 0) && (((cl:Int) == 1) && (S == 0)))):=by
    have hz:=HZ.out
    rw [hz]
    show ((true && ((false || false) || (nm.toList == []))) && (((xl:Int) == 0) && (((cl:Int) == 1) && ((((tl:Int) == 0) || (false || false)) && (((el:Int) == 0) || false)))))=_
    cases (nm.toList == []) <;> cases ((xl:Int) == 0) <;> cases ((cl:Int) == 1) <;> cases ((tl:Int) == 0) <;> cases ((el:Int) == 0) <;> rfl
   cases h1:(nm.toList == []) with
   | false =>
     have e:wellS 5 nm xl cl tl el=false:=by rw [eq,h1];rfl
     rw [e]
     clear e eq
     go_enter Tryz.func177,Tryz.ntmps177
     go_wp2
     go_quiet (fail)
     go_wp2
     go_ret
     exact ⟨rfl,below_drewN ha _⟩
   | true =>
     cases h2:((xl:Int) == 0) with
     | false =>
       have e:wellS 5 nm xl cl tl el=false:=by rw [eq,h1,h2];rfl
       rw [e]
       clear e eq
       go_enter Tryz.func177,Tryz.ntmps177
       go_wp2
       go_quiet (fail)
       go_wp2
       go_ret
       exact ⟨rfl,below_drewN ha _⟩
     | true =>
       cases h3:((cl:Int) == 1) with
       | false =>
         have e:wellS 5 nm xl cl tl el=false:=by rw [eq,h1,h2,h3];rfl
         rw [e]
         clear e eq
         go_enter Tryz.func177,Tryz.ntmps177
         go_wp2
         go_quiet (fail)
         go_wp2
         go_ret
         exact ⟨rfl,below_drewN ha _⟩
       | true =>
         cases h4:(S == 0) with
         | false =>
           have e:wellS 5 nm xl cl tl el=false:=by rw [eq,h1,h2,h3,h4];rfl
           rw [e]
           clear e eq
           go_enter Tryz.func177,Tryz.ntmps177
           go_wp2
           go_quiet (fail)
           go_wp2
           go_ret
           exact ⟨rfl,below_drewN ha _⟩
         | true =>
           have e:wellS 5 nm xl cl tl el=true:=by rw [eq,h1,h2,h3,h4];rfl
           rw [e]
           clear e eq
           go_enter Tryz.func177,Tryz.ntmps177
           go_wp2
           go_quiet (fail)
           go_wp2
           go_ret
           exact ⟨rfl,below_drewN ha _⟩
 by_cases q6:k=6
 · subst q6
   have eq:wellS 6 nm xl cl tl el=((nm.toList == []) && (((xl:Int) == 0) && (((cl:Int) == 1) && (S == 0)))):=by
    have hz:=HZ.out
    rw [hz]
    show ((true && ((false || false) || (nm.toList == []))) && (((xl:Int) == 0) && (((cl:Int) == 1) && ((((tl:Int) == 0) || (false || false)) && (((el:Int) == 0) || false)))))=_
    cases (nm.toList == []) <;> cases ((xl:Int) == 0) <;> cases ((cl:Int) == 1) <;> cases ((tl:Int) == 0) <;> cases ((el:Int) == 0) <;> rfl
   cases h1:(nm.toList == []) with
   | false =>
     have e:wellS 6 nm xl cl tl el=false:=by rw [eq,h1];rfl
     rw [e]
     clear e eq
     go_enter Tryz.func177,Tryz.ntmps177
     go_wp2
     go_quiet (fail)
     go_wp2
     go_ret
     exact ⟨rfl,below_drewN ha _⟩
   | true =>
     cases h2:((xl:Int) == 0) with
     | false =>
       have e:wellS 6 nm xl cl tl el=false:=by rw [eq,h1,h2];rfl
       rw [e]
       clear e eq
       go_enter Tryz.func177,Tryz.ntmps177
       go_wp2
       go_quiet (fail)
       go_wp2
       go_ret
       exact ⟨rfl,below_drewN ha _⟩
     | true =>
       cases h3:((cl:Int) == 1) with
       | false =>
         have e:wellS 6 nm xl cl tl el=false:=by rw [eq,h1,h2,h3];rfl
         rw [e]
         clear e eq
         go_enter Tryz.func177,Tryz.ntmps177
         go_wp2
         go_quiet (fail)
         go_wp2
         go_ret
         exact ⟨rfl,below_drewN ha _⟩
       | true =>
         cases h4:(S == 0) with
         | false =>
           have e:wellS 6 nm xl cl tl el=false:=by rw [eq,h1,h2,h3,h4];rfl
           rw [e]
           clear e eq
           go_enter Tryz.func177,Tryz.ntmps177
           go_wp2
           go_quiet (fail)
           go_wp2
           go_ret
           exact ⟨rfl,below_drewN ha _⟩
         | true =>
           have e:wellS 6 nm xl cl tl el=true:=by rw [eq,h1,h2,h3,h4];rfl
           rw [e]
           clear e eq
           go_enter Tryz.func177,Tryz.ntmps177
           go_wp2
           go_quiet (fail)
           go_wp2
           go_ret
           exact ⟨rfl,below_drewN ha _⟩
 by_cases q7:k=7
 · subst q7
   have eq:wellS 7 nm xl cl tl el=((nm.toList == []) && (((xl:Int) == 0) && (((cl:Int) == 0) && (S == 0)))):=by
    have hz:=HZ.out
    rw [hz]
    show ((true && ((false || false) || (nm.toList == []))) && (((xl:Int) == 0) && (((cl:Int) == 0) && ((((tl:Int) == 0) || (false || false)) && (((el:Int) == 0) || false)))))=_
    cases (nm.toList == []) <;> cases ((xl:Int) == 0) <;> cases ((cl:Int) == 0) <;> cases ((tl:Int) == 0) <;> cases ((el:Int) == 0) <;> rfl
   cases h1:(nm.toList == []) with
   | false =>
     have e:wellS 7 nm xl cl tl el=false:=by rw [eq,h1];rfl
     rw [e]
     clear e eq
     go_enter Tryz.func177,Tryz.ntmps177
     go_wp2
     go_quiet (fail)
     go_wp2
     go_ret
     exact ⟨rfl,below_drewN ha _⟩
   | true =>
     cases h2:((xl:Int) == 0) with
     | false =>
       have e:wellS 7 nm xl cl tl el=false:=by rw [eq,h1,h2];rfl
       rw [e]
       clear e eq
       go_enter Tryz.func177,Tryz.ntmps177
       go_wp2
       go_quiet (fail)
       go_wp2
       go_ret
       exact ⟨rfl,below_drewN ha _⟩
     | true =>
       cases h3:((cl:Int) == 0) with
       | false =>
         have e:wellS 7 nm xl cl tl el=false:=by rw [eq,h1,h2,h3];rfl
         rw [e]
         clear e eq
         go_enter Tryz.func177,Tryz.ntmps177
         go_wp2
         go_quiet (fail)
         go_wp2
         go_ret
         exact ⟨rfl,below_drewN ha _⟩
       | true =>
         cases h4:(S == 0) with
         | false =>
           have e:wellS 7 nm xl cl tl el=false:=by rw [eq,h1,h2,h3,h4];rfl
           rw [e]
           clear e eq
           go_enter Tryz.func177,Tryz.ntmps177
           go_wp2
           go_quiet (fail)
           go_wp2
           go_ret
           exact ⟨rfl,below_drewN ha _⟩
         | true =>
           have e:wellS 7 nm xl cl tl el=true:=by rw [eq,h1,h2,h3,h4];rfl
           rw [e]
           clear e eq
           go_enter Tryz.func177,Tryz.ntmps177
           go_wp2
           go_quiet (fail)
           go_wp2
           go_ret
           exact ⟨rfl,below_drewN ha _⟩
 have e:wellS k nm xl cl tl el=false:=by
  have:kindS k=false:=by unfold kindS;rw [decide_eq_false_iff_not];omega
  unfold wellS;rw [this];rfl
 rw [e]
 clear e
 have k1:(k == 1)=false:=by simpa using q1
 have k2:(k == 2)=false:=by simpa using q2
 have k3:(k == 3)=false:=by simpa using q3
 have k4:(k == 4)=false:=by simpa using q4
 have k5:(k == 5)=false:=by simpa using q5
 have k6:(k == 6)=false:=by simpa using q6
 have k7:(k == 7)=false:=by simpa using q7
 clear q1 q2 q3 q4 q5 q6 q7
 go_enter Tryz.func177,Tryz.ntmps177
 go_wp2
 go_quiet (fail)
 go_wp2
 go_ret
 exact ⟨rfl,below_drewN ha _⟩
theorem info_node:(Tryz.prog.info? 208).map (fun i=>(i.zero,i.size,i.bytes))=some (some .nilIface,1,16):=by kernel_rfl
theorem TourIn.drew {w0 w:World} {B:Nat} {t:Tr} {v:Value} (h:TourIn w0 w B t v):TourIn w0 w.drew B t v:=⟨h.blk,h.own⟩
theorem TourIn.lim {w0 w:World} {B:Nat} {t:Tr} {v:Value} (h:TourIn w0 w B t v) (L:Int):TourIn w0 (w.setCell ⟨B,2,none⟩ (.int .i64 L)).drew B ⟨t.l,t.dep,L⟩ v:=by
 obtain ⟨h1,xs,h2,h3⟩:=h
 exact ⟨h1.set 2 (.int .i64 L),xs,ownsRow_setCell_below h2 (a:=⟨B,2,none⟩) (by simp) (.int .i64 L),h3⟩
theorem TourIn.depth {w0 w:World} {B:Nat} {v:Value} {l:List Nd} {dep lim:Int} (h:TourIn w0 w B ⟨l,dep,lim⟩ v) (D:Int):TourIn w0 (w.setCell ⟨B,1,none⟩ (.int .i64 D)).drew B ⟨l,D,lim⟩ v:=by
 obtain ⟨h1,xs,h2,h3⟩:=h
 exact ⟨h1.set 1 (.int .i64 D),xs,ownsRow_setCell_below h2 (a:=⟨B,1,none⟩) (by simp) (.int .i64 D),h3⟩
theorem Fr.drew {B:Nat} {r r':Option Nat} {a w:World} (h:Fr B r r' a w):Fr B r r' a w.drew:=⟨h.os,h.tape,h.output,h.size,h.block,h.row⟩
structure Mid (w0 w:World) (B:Nat) (t:Tr) (v v':Value) (d:Int) (wx:World):Prop where
 tour:TourIn w0 wx B t v'
 b3:Blk wx w.heap.size #[.pointer (some ⟨B,0,none⟩)] 215
 b5:Blk wx (w.heap.size+1) #[.int .i64 d] 3
 fr:Fr B v.ownBlock v'.ownBlock w wx
theorem TourIn.ne {w0 w:World} {B:Nat} {t:Tr} {v:Value} (h:TourIn w0 w B t v) {c:Nat} {cs:Array Value} {T:TypeId} (hb:Blk w c cs T) (hT:T ≠ 208):some c ≠ v.ownBlock:=fun e=>by
 obtain ⟨_,xs,h2,_⟩:=h
 rcases h2.2 with ⟨hv,_⟩ | ⟨g,cap,cur,hv,_,hh,_⟩
 · rw [hv] at e;cases e
 · rw [hv] at e
   have:c=g:=Option.some.inj e
   subst this
   rw [hb] at hh
   simp only [Option.some.injEq,Obj.cells.injEq] at hh
   exact hT hh.2.1
theorem blk_grown {w w':World} {b:Nat} {cs:Array Value} {t:TypeId} {row:Option Nat} (h:Blk w b cs t) (hg:w.grownBy w' row) (hr:row ≠ some b):Blk w' b cs t :=
 (hg.block b h.lt (fun e=>hr e.symm)).trans h
theorem grown_fr {B:Nat} {r:Option Nat} {a w w':World} {row r':Option Nat} (h:Fr B r row a w) (hg:w.grownBy w' row) (hr:r'=row ∨ ∀ g,r'=some g→w.heap.size≤g):Fr B r r' a w' :=
 h.trans ⟨hg.os,hg.tape,hg.output,hg.size,fun k hk _ hn=>hg.block k hk hn,hr⟩
set_option maxHeartbeats 1000000 in
theorem eachE_any (w0:World) (B:Nat) (xs:List Nd) (hwalk:∀ i (h:i < xs.length),WalkOf w0 B xs[i]) (k n:Int) (s:ByteArray) (vx:Value) (d:Int) (t:Tr) (v:Value) (w:World) (c3 c5:Nat) (T3 T5:TypeId) (hx:SlIn w0 .E xs vx) (hw:Below w0.heap.size w0 w) (hB0:w0.heap.size≤B) (hd0:0≤d) (hd1:d≤90) (ht:t.ok) (hl:t.lim=0)
    (h3:Blk w c3 #[.pointer (some ⟨B,0,none⟩)] T3) (h5:Blk w c5 #[.int .i64 d] T5) (hc3:c3 ≠ B) (hc5:c5 ≠ B) (hr3:some c3 ≠ v.ownBlock) (hr5:some c5 ≠ v.ownBlock) (hin:TourIn w0 w B t v) :
    Calls Tryz.prog 231 #[.agg #[.int .i64 k,.int .i64 n,.string s,vx],.func (.func 175) #[] #[.pointer (some ⟨c3,0,none⟩),.pointer (some ⟨c5,0,none⟩)]] w (TouredTo w0 w B v (tourL xs (d+1) t)):=by
 have hb:Below w.heap.size w (w.alloc (.cells #[.int .i64 k,.int .i64 n,.string s,vx] 248)):=(Below.refl _ w).alloc (Nat.le_refl _) _
 have hsh:=showE_any w0 B xs hwalk vx d t v (w.alloc (.cells #[.int .i64 k,.int .i64 n,.string s,vx] 248)) c3 c5 T3 T5 hx (hw.trans (hb.mono hw.size)) hB0 hd0 hd1 ht hl (h3.below hb h3.lt) (h5.below hb h5.lt) hc3 hc5 hr3 hr5 (hin.below hb)
 have HS:=Lib.hid hsh;clear hsh
 obtain ⟨a,c,rfl,_⟩:=hx
 clear hwalk h3 h5 hin hw
 obtain ⟨t2,ht2⟩:∃ t2,tourL xs (d+1) t=t2:=⟨_,rfl⟩
 rw [ht2] at HS ⊢
 clear ht2
 have HBB:=Lib.hid hb;clear hb
 go_enter Tryz.func231,Tryz.ntmps231
 go_wp2_with fail
 refine HS.out.mono ?_
 rintro e w2 ⟨v2,rfl,h2,hf⟩
 go_wp2
 go_ret
 exact ⟨v2,rfl,h2,(Fr.below HBB.out).trans hf⟩
def kidsT:Nd→Int→Tr→Tr
 | .mk .E _ _ _ xs _ _ _,d,t=>tourL xs d t
 | .mk .C _ _ _ xs cs _ _,d,t=>if (tourL xs d t).lim ≠ 0 then tourL xs d t else tourL cs d (tourL xs d t)
 | .mk .S _ _ _ xs cs ts es,d,t=>let a:=tourL cs d t
   if a.lim ≠ 0 then a else let b:=tourL xs d a
    if b.lim ≠ 0 then b else let c:=tourL ts d b
     if c.lim ≠ 0 then c else tourL es d c
 | .mk .D _ _ _ _ _ _ _,_,t=>t
theorem tourN_eq (x:Nd) (d:Int) (t:Tr):tourN x d t=if (nodeT x d t).lim ≠ 0 then nodeT x d t else kidsT x (d+1) (nodeT x d t):=by
 obtain ⟨ty,k,n,nm,xs,cs,ts,es⟩:=x
 unfold tourN
 cases ty <;> rfl
def eachF:Ty→FuncId | .E=>231 | .C=>230 | .S=>225 | .D=>224
def EachOf (w0:World) (B:Nat) (x:Nd):Prop:=∀ (vs:List Value) (d:Int) (t:Tr) (v:Value) (w:World) (c3 c5:Nat) (T3 T5:TypeId),NdIn w0 x vs→Below w0.heap.size w0 w→w0.heap.size≤B→0≤d→d≤90→t.ok→t.lim=0 →
 Blk w c3 #[.pointer (some ⟨B,0,none⟩)] T3→Blk w c5 #[.int .i64 d] T5→c3 ≠ B→c5 ≠ B→some c3 ≠ v.ownBlock→some c5 ≠ v.ownBlock→TourIn w0 w B t v →
 Calls Tryz.prog (eachF x.ty) #[.agg vs.toArray,.func (.func 175) #[] #[.pointer (some ⟨c3,0,none⟩),.pointer (some ⟨c5,0,none⟩)]] w (TouredTo w0 w B v (kidsT x (d+1) t))
set_option maxRecDepth 100000 in
set_option maxHeartbeats 8000000 in
theorem walk_gen (w0:World) (B:Nat) (x:Nd) (heach:EachOf w0 B x):WalkOf w0 B x:=by
    intro vs d t v w hin hw hB0 hd0 hd1 htok htl hT
    have hnd:=hin
    have hwk:=tourN_eq x d t
    obtain ⟨R,hR⟩:∃ R,tourN x d t=R:=⟨_,rfl⟩
    rw [hR] at hwk ⊢
    clear hR
    have HR:=Lib.hid hwk;clear hwk
    have hby:=fun (w:World) h=>beyond_any w0 w B t v d h
    obtain ⟨a,c,rfl⟩:=hT.shape
    have hlt:=hT.blk.lt
    have HT:=Lib.hid hT;clear hT
    have HBY:=Lib.hid hby;clear hby
    have HK:=Lib.hid heach;clear heach
    have HND:=Lib.hid hnd;clear hnd hin
    unfold nodeV
    obtain ⟨I,hI⟩:∃ I,ifTy x.ty=I:=⟨_,rfl⟩
    obtain ⟨A,hA⟩:∃ A,Value.agg vs.toArray=A:=⟨_,rfl⟩
    rw [hI,hA]
    have HNV:=Lib.hid (show nodeV x.ty vs=.iface I A by unfold nodeV;rw [hI,hA]);clear hI hA
    have HONE:=Lib.hid (show (Value.iface I A).oneCell'=true from rfl)
    have hbb:Below w.heap.size w ((w.alloc (.cells #[.pointer (some ⟨B,0,none⟩)] 215)).alloc (.cells #[.int .i64 d] 3)):=((Below.refl _ w).alloc (Nat.le_refl _) _).alloc (by simp) _
    have hT2:=HT.out.below hbb
    have b3:=(Blk.new w #[.pointer (some ⟨B,0,none⟩)] 215).alloc (.cells #[.int .i64 d] 3)
    have b5:=Blk.new (w.alloc (.cells #[.pointer (some ⟨B,0,none⟩)] 215)) #[.int .i64 d] 3
    rw [World.size_alloc] at b5
    go_enter Tryz.func139,Tryz.ntmps139
    go_upto_region 1 with fail
    have hz2:w.heap.size+1 < ((w.alloc (.cells #[.pointer (some ⟨B,0,none⟩)] 215)).alloc (.cells #[.int .i64 d] 3)).heap.size:=by simp
    obtain ⟨W2,hW2⟩:∃ W2,(w.alloc (.cells #[.pointer (some ⟨B,0,none⟩)] 215)).alloc (.cells #[.int .i64 d] 3)=W2:=⟨_,rfl⟩
    rw [hW2] at hbb hT2 b3 b5 hz2 ⊢
    clear hW2
    have k3:W2.cell? ⟨w.heap.size,0,none⟩=some (.pointer (some ⟨B,0,none⟩)):=b3.cell 0
    have k5:W2.cell? ⟨w.heap.size+1,0,none⟩=some (.int .i64 d):=b5.cell 0
    have q2:W2.cell? ⟨B,2,none⟩=some (.int .i64 t.lim):=hT2.blk.cell 2
    have f2:=hT2.blk.free 2
    have HT2:=Lib.hid hT2;clear hT2
    have HB3:=Lib.hid b3;clear b3
    have HB5:=Lib.hid b5;clear b5
    have HBB:=Lib.hid hbb;clear hbb
    have HBZ:=Lib.hid (HBY.out W2.drew HT2.out.drew)
    obtain ⟨L,hL⟩:∃ L,byd t.l.length d=L:=⟨_,rfl⟩
    rw [hL] at HBZ
    have HL:=Lib.hid hL;clear hL
    go_cut [6] (fun s6 wx=>s6=.bool false∧Mid w0 w B ⟨t.l,t.dep,L⟩ (.slice a t.l.length c) (.slice a t.l.length c) d wx)
    case first =>
     go_region_with (go_at_call 174;(with_reducible refine HBZ.out.mono ?_);rintro e w' ⟨rfl,rfl⟩)
     all_goals
      go_wp2_with fail
      go_meet
      exact ⟨rfl,TourIn.lim HT2.out L,HB3.out.other (a:=⟨B,2,none⟩) (by simp;omega) (.int .i64 L),HB5.out.other (a:=⟨B,2,none⟩) (by simp;omega) (.int .i64 L),((Fr.below (B:=B) HBB.out).trans (Fr.only ((Only.refl B W2).setCell (p:=⟨B,2,none⟩) rfl (.int .i64 L)))).drew⟩
    case rest =>
     obtain ⟨rfl,hM⟩:=hcut
     clear k3 k5 q2 f2 HT2 HB3 HB5 HBB HBZ HBY hz2
     obtain ⟨hm1,hm3,hm5,hmf⟩:=hM
     have k3:wc.cell? ⟨w.heap.size,0,none⟩=some (.pointer (some ⟨B,0,none⟩)):=hm3.cell 0
     have k5:wc.cell? ⟨w.heap.size+1,0,none⟩=some (.int .i64 d):=hm5.cell 0
     have q0:wc.cell? ⟨B,0,none⟩=some (.slice a t.l.length c):=hm1.blk.cell 0
     have q2:wc.cell? ⟨B,2,none⟩=some (.int .i64 L):=hm1.blk.cell 2
     have f0:=hm1.blk.free 0
     by_cases hL0:L=0
     · subst hL0
       have hz:=byd_zero HL.out
       have htl2:=htok.1
       have hnT:nodeT x d t=⟨t.l ++ [x],max t.dep d,0⟩:=by unfold nodeT;rw [HL.out,if_neg (by simp)]
       have hRv:R=kidsT x (d+1) ⟨t.l ++ [x],max t.dep d,0⟩:=by
        rw [HR.out,hnT,if_neg (by simp)]
       have hok2:=nodeT_ok (x:=x) htok hd0
       rw [hnT] at hok2
       clear hnT
       have HRV:=Lib.hid hRv;clear hRv
       have n3:=hm1.ne hm3 (by decide)
       have n5:=hm1.ne hm5 (by decide)
       have nB:(Value.slice a t.l.length c).ownBlock ≠ some B:=fun e=>by have:=(hm1.row B e).1;omega
       have hBlt:=hm1.blk.lt
       have h3lt:=hm3.lt
       have h5lt:=hm5.lt
       obtain ⟨hmb,xsv,hmo,hmn⟩:=hm1
       obtain ⟨i0,hi0,hz0,hz1,hz2⟩:=info_parts info_node
       have HI0:=Lib.hid hi0;clear hi0
       have HZ0:=Lib.hid hz0;clear hz0
       have HZ1:=Lib.hid hz1;clear hz1
       have HZ2:=Lib.hid hz2;clear hz2
       have HMO:=Lib.hid hmo;clear hmo
       have HMB:=Lib.hid hmb;clear hmb
       have HMN:=Lib.hid hmn;clear hmn
       have HM3:=Lib.hid hm3;clear hm3
       have HM5:=Lib.hid hm5;clear hm5
       have HMF:=Lib.hid hmf;clear hmf
       go_upto_region 4 with fail
       go_cut [6] (fun s6 wx=>s6=.bool false∧∃ v',Mid w0 w B ⟨t.l ++ [x],t.dep,0⟩ (.slice a t.l.length c) v' d wx)
       case first =>
        go_region_law
         (refine step_append_lies _ (by rfl) _ _ _ (by rfl) (B+1) 208 i0 _ 1 16 Tryz.underlying167 HI0.out HZ0.out HZ1.out HZ2.out rfl (by omega) _ t.l.length xsv (by rfl) (HMO.out.drew.alloc _) ⟨wc.heap.size,0,none⟩ 1 1 [.iface I A] (by rfl) (by rfl) (World.news_of_block (cs:=#[.iface I A]) (t:=208) (fr:=(0,0)) (heap_alloc_new wc.drew _)) (fun u hu=>by rw [List.mem_singleton.1 hu];exact HONE.out) (by omega) (by unfold maxLen;omega) (by omega) (by simp;omega) (wc.heap.size+1) (by simp) ?_
          intro gg cap w2 hown1 hgrow hat hlt2
          have q4:=(blk_grown ((show Blk wc.drew B _ _ from HMB.out).alloc _) hgrow nB).cell 0
          have q5:=(blk_grown ((show Blk wc.drew B _ _ from HMB.out).alloc _) hgrow nB).free 0
          have q6:=(blk_grown ((show Blk wc.drew w.heap.size _ _ from HM3.out).alloc _) hgrow (fun e=>n3 e.symm)).cell 0)
        all_goals
         go_wp2_with fail
         go_meet
         have hxl:xsv.length=t.l.length:=by have:=HMO.out.1;omega
         have hown2:=ownsRow_setCell_below hown1 (a:=⟨B,0,none⟩) (by simp) (.slice (some ⟨gg,0,none⟩) (t.l.length+1) cap)
         refine ⟨rfl,.slice (some ⟨gg,0,none⟩) (t.l.length+1) cap,⟨(blk_grown ((show Blk wc.drew B _ _ from HMB.out).alloc _) hgrow nB).set 0 _,_,?_,(by have:=HMN.out.snoc hxl HND.out;rwa [HNV.out] at this)⟩,(blk_grown ((show Blk wc.drew w.heap.size _ _ from HM3.out).alloc _) hgrow (fun e=>n3 e.symm)).other (a:=⟨B,0,none⟩) (by simp;omega) _,(blk_grown ((show Blk wc.drew (w.heap.size+1) _ _ from HM5.out).alloc _) hgrow (fun e=>n5 e.symm)).other (a:=⟨B,0,none⟩) (by simp;omega) _,?_⟩
         · rw [List.length_append]
           exact hown2
         · refine (grown_fr (HMF.out.drew.alloc _) hgrow ?_).trans (Fr.only ((Only.refl B w2).setCell (p:=⟨B,0,none⟩) rfl _))
           rcases hat with h | h
           · exact .inl h.symm
           · refine .inr fun g' hg'=>?_
             have:gg=g':=Option.some.inj hg'
             simp;omega
       case rest =>
        clear k3 k5 q0 q2 f0 HMO HMB HMN HM3 HM5 HMF n3 n5 nB HI0 HZ0 HZ1 HZ2 hBlt h3lt h5lt HL HR htl2 HONE
        obtain ⟨rfl,v',hM⟩:=hcut
        obtain ⟨hm1,hm3,hm5,hmf⟩:=hM
        obtain ⟨X,hX⟩:∃ X,t.l ++ [x]=X:=⟨_,rfl⟩
        rw [hX] at hok2 HRV hm1
        clear hX
        have k3:wc.cell? ⟨w.heap.size,0,none⟩=some (.pointer (some ⟨B,0,none⟩)):=hm3.cell 0
        have k5:wc.cell? ⟨w.heap.size+1,0,none⟩=some (.int .i64 d):=hm5.cell 0
        have q1:wc.cell? ⟨B,1,none⟩=some (.int .i64 t.dep):=hm1.blk.cell 1
        have f1:=hm1.blk.free 1
        have HM1:=Lib.hid hm1;clear hm1
        have HM3:=Lib.hid hm3;clear hm3
        have HM5:=Lib.hid hm5;clear hm5
        have HMF:=Lib.hid hmf;clear hmf
        have hne3:w.heap.size ≠ B:=by omega
        have hne5:w.heap.size+1 ≠ B:=by omega
        go_upto_region 5 with fail
        go_cut [6] (fun s6 wx=>s6=.bool false∧Mid w0 w B ⟨X,max t.dep d,0⟩ (.slice a t.l.length c) v' d wx)
        case first =>
         by_cases hm:d≤t.dep
         · have hmx:max t.dep d=t.dep:=by omega
           have HMX:=Lib.hid hmx;clear hmx
           go_region
           all_goals
            go_wp2_with fail
            go_meet
            rw [HMX.out]
            exact ⟨rfl,TourIn.depth HM1.out t.dep,HM3.out.other (a:=⟨B,1,none⟩) hne3 (.int .i64 t.dep),HM5.out.other (a:=⟨B,1,none⟩) hne5 (.int .i64 t.dep),(HMF.out.trans (Fr.only ((Only.refl B wc).setCell (p:=⟨B,1,none⟩) rfl (.int .i64 t.dep)))).drew⟩
         · have hmx:max t.dep d=d:=by omega
           have HMX:=Lib.hid hmx;clear hmx
           go_region
           all_goals
            go_wp2_with fail
            go_meet
            rw [HMX.out]
            exact ⟨rfl,TourIn.depth HM1.out d,HM3.out.other (a:=⟨B,1,none⟩) hne3 (.int .i64 d),HM5.out.other (a:=⟨B,1,none⟩) hne5 (.int .i64 d),(HMF.out.trans (Fr.only ((Only.refl B wc).setCell (p:=⟨B,1,none⟩) rfl (.int .i64 d)))).drew⟩
        case rest =>
         clear k3 k5 q1 f1 HM1 HM3 HM5 HMF
         obtain ⟨rfl,hM⟩:=hcut
         obtain ⟨hm1,hm3,hm5,hmf⟩:=hM
         have hold:Below w0.heap.size w0 wc:=hw.trans (hmf.old hB0 hw.size (fun g hg=>(HT.out.row g hg).1))
         have HC:=Lib.hid (HK.out vs d _ v' wc w.heap.size (w.heap.size+1) _ _ HND.out hold hB0 hd0 (by omega) hok2 rfl hm3 hm5 hne3 hne5 (hm1.ne hm3 (by decide)) (hm1.ne hm5 (by decide)) hm1)
         have HMF:=Lib.hid hmf;clear hmf
         clear hm1 hm3 hm5 hold
         obtain ⟨R2,hR2⟩:∃ R2,kidsT x (d+1) ⟨X,max t.dep d,0⟩=R2:=⟨_,rfl⟩
         rw [hR2] at HC HRV
         clear hR2 hok2
         have hnv:=HNV.out
         unfold nodeV at hnv
         obtain ⟨hI,hA⟩:=Value.iface.inj hnv
         clear hnv
         subst hI hA
         clear HNV HK HND HT
         obtain ⟨ty,hty⟩:∃ ty,x.ty=ty:=⟨_,rfl⟩
         rw [hty] at HC ⊢
         clear hty
         cases ty
         all_goals
          unfold ifTy
          unfold eachF at HC
          simp only at HC ⊢
          go_wp2_with fail
          refine HC.out.mono ?_
          rintro e wz ⟨v2,rfl,h2,hf⟩
          have HF:=Lib.hid (HMF.out.trans hf);clear hf
          have H2:=Lib.hid h2;clear h2
          go_wp2
          go_ret
          rw [HRV.out]
          exact ⟨v2,rfl,H2.out,HF.out⟩
     · have hl0:(L != 0)=true:=by simpa using hL0
       have hRv:R=⟨t.l,t.dep,L⟩:=by
        have:nodeT x d t=⟨t.l,t.dep,L⟩:=by unfold nodeT;rw [HL.out,if_pos hL0]
        rw [HR.out,this,if_pos hL0]
       have HRV:=Lib.hid hRv;clear hRv
       have hdf:decide (L=0)=false:=by simpa using hL0
       have HDF:=Lib.hid hdf;clear hdf
       have HM1:=Lib.hid hm1;clear hm1
       have HMF:=Lib.hid hmf;clear hmf
       clear hm3 hm5
       go_wp2
       go_ret
       rw [HRV.out]
       exact ⟨.slice a t.l.length c,by simp only;rw [HDF.out];rfl,HM1.out,HMF.out⟩
end Go.Proofs.YtmohmggnjldddaaGreatDoor
